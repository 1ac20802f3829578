import PyProof.Rows.All
import Wide.All
import OpenK.AllK
import Wide.FinOn
import HandS.ForMost
import HandS.ForExc
import HandS.More
import HandS.Star
import HandS.ClsMeth
import HandS.Wide
import HandS.Gcd
import HandS.ExcInit
import HandS.ExcField
import HandS.IsInst
import HandS.OwnEq
import HandS.FStr
import HandS.WideBits
import KE.IntBitsLaws
import KE.KFmtOwn
import HandS.StrMore
import HandS.Style
import HandS.StrSplit
import HandS.OwnIter
import HandS.IterNext
import HandS.DictComp
import HandS.Deep
import HandS.DeepEq
import HandS.Conv
import HandS.SortOrd
import HandS.Walk
import HandS.TryMany
import HandS.FStrTup
import PyProof.ReprHeadsEmpty
import HandS.TupAny
import HandS.Records
import HandS.HotCalls
import PySem.Challenge.RW_onethrow_k62_shares_dealt
set_option linter.all false
namespace ZR
theorem fdiv_exact {a d : Int} (hd : d ≠ 0) (h : d ∣ a) : a.fdiv d = a / d := by
  obtain ⟨k, rfl⟩ := h
  rw [Int.mul_comm, Int.mul_fdiv_cancel _ hd, Int.mul_ediv_cancel _ hd]
/-- the divisor: the greatest common one, with the sign of b -/
def sg (t b : Int) : Int := if b < 0 then -((Nat.gcd t.natAbs b.natAbs : Nat) : Int) else ((Nat.gcd t.natAbs b.natAbs : Nat) : Int)
theorem gcd_ne (t : Int) {b : Int} (hb : b ≠ 0) : ((Nat.gcd t.natAbs b.natAbs : Nat) : Int) ≠ 0 := by
  have : 0 < Nat.gcd t.natAbs b.natAbs := Nat.gcd_pos_of_pos_right _ (by omega)
  omega
theorem sg_ne (t : Int) {b : Int} (hb : b ≠ 0) : sg t b ≠ 0 := by
  have := gcd_ne t hb
  unfold sg
  split <;> omega
theorem sg_le (t b : Int) (hb : b ≠ 0) : (sg t b).natAbs ≤ b.natAbs := by
  have : Nat.gcd t.natAbs b.natAbs ≤ b.natAbs := Nat.gcd_le_right _ (by omega)
  unfold sg
  split <;> omega
theorem dvd_t (t b : Int) : ((Nat.gcd t.natAbs b.natAbs : Nat) : Int) ∣ t := Int.ofNat_dvd_left.mpr (Nat.gcd_dvd_left _ _)
theorem dvd_b (t b : Int) : ((Nat.gcd t.natAbs b.natAbs : Nat) : Int) ∣ b := Int.ofNat_dvd_left.mpr (Nat.gcd_dvd_right _ _)
theorem norm_num (t b : Int) (hb : b ≠ 0) : t.fdiv (sg t b) = ((t : Rat) / (b : Rat)).num := by
  rw [← Rat.divInt_eq_div, Rat.num_divInt]
  have hg := gcd_ne t hb
  have e : b.gcd t = Nat.gcd t.natAbs b.natAbs := by rw [Int.gcd_comm]; rfl
  have d1 := dvd_t t b
  rw [e]
  unfold sg
  split
  · rename_i h
    rw [fdiv_exact (by omega) (Int.neg_dvd.mpr d1), Int.sign_eq_neg_one_of_neg h, Int.ediv_neg]
    obtain ⟨k, hk⟩ := d1
    generalize ((Nat.gcd t.natAbs b.natAbs : Nat) : Int) = g at *
    subst hk
    rw [Int.mul_ediv_cancel_left _ hg, show -1 * (g * k) = g * (-k) by grind, Int.mul_ediv_cancel_left _ hg]
  · rename_i h
    rw [fdiv_exact hg d1, Int.sign_eq_one_of_pos (by omega), Int.one_mul]
theorem norm_den (t b : Int) (hb : b ≠ 0) : b.fdiv (sg t b) = ((((t : Rat) / (b : Rat)).den : Nat) : Int) := by
  rw [← Rat.divInt_eq_div, Rat.den_divInt, if_neg hb]
  have hg := gcd_ne t hb
  have e : b.gcd t = Nat.gcd t.natAbs b.natAbs := by rw [Int.gcd_comm]; rfl
  have d1 := dvd_b t b
  rw [e, Int.natCast_ediv]
  unfold sg
  split
  · rename_i h
    rw [fdiv_exact (by omega) (Int.neg_dvd.mpr d1), Int.ediv_neg]
    have e2 : ((b.natAbs : Nat) : Int) = -b := by omega
    rw [e2]
    obtain ⟨k, hk⟩ := d1
    generalize ((Nat.gcd t.natAbs b.natAbs : Nat) : Int) = g at *
    subst hk
    rw [Int.mul_ediv_cancel_left _ hg, show -(g * k) = g * (-k) by grind, Int.mul_ediv_cancel_left _ hg]
  · rename_i h
    have e2 : ((b.natAbs : Nat) : Int) = b := by omega
    rw [e2, fdiv_exact hg d1]
theorem num_le (t b : Int) : ((t : Rat) / (b : Rat)).num.natAbs ≤ t.natAbs := by
  rw [← Rat.divInt_eq_div, Rat.num_divInt, Int.natAbs_ediv_of_dvd, Int.natAbs_mul]
  · rcases Int.lt_trichotomy b 0 with h | h | h
    · rw [Int.sign_eq_neg_one_of_neg h]; simp; exact Nat.div_le_self _ _
    · subst h; simp
    · rw [Int.sign_eq_one_of_pos h]; simp; exact Nat.div_le_self _ _
  · exact Int.dvd_mul_of_dvd_right (Int.gcd_dvd_right ..)
theorem den_le (t b : Int) (hb : b ≠ 0) : ((t : Rat) / (b : Rat)).den ≤ b.natAbs := by
  rw [← Rat.divInt_eq_div, Rat.den_divInt, if_neg hb]
  exact Nat.div_le_self _ _
theorem r_self (p : Rat) : ((p.num : Int) : Rat) / (((p.den : Nat) : Int) : Rat) = p := by
  rw [← Rat.divInt_eq_div, Rat.num_divInt_den]
theorem r_add (p q : Rat) : ((p.num * q.den + q.num * p.den : Int) : Rat) / ((p.den * q.den : Int) : Rat) = p + q := by
  rw [← Rat.divInt_eq_div, Rat.add_def', ← Rat.divInt_ofNat]; simp
theorem r_sub (p q : Rat) : ((p.num * q.den - q.num * p.den : Int) : Rat) / ((p.den * q.den : Int) : Rat) = p - q := by
  rw [← Rat.divInt_eq_div, Rat.sub_def', ← Rat.divInt_ofNat]; simp
theorem r_mul (p q : Rat) : ((p.num * q.num : Int) : Rat) / ((p.den * q.den : Int) : Rat) = p * q := by
  rw [← Rat.divInt_eq_div, Rat.mul_def', ← Rat.divInt_ofNat]; simp
theorem r_neg (p : Rat) : ((-p.num : Int) : Rat) / (((p.den : Nat) : Int) : Rat) = -p := by
  rw [← Rat.divInt_eq_div, ← Rat.neg_divInt, Rat.num_divInt_den]
theorem ci {b : Int} (hb : b ≠ 0) : (b : Rat) ≠ 0 := by simpa using hb
theorem num_ne {q : Rat} (h : q ≠ 0) : q.num ≠ 0 := by simpa using h
theorem r_div (p q : Rat) (h : q.num ≠ 0) : ((p.num * q.den : Int) : Rat) / ((p.den * q.num : Int) : Rat) = p / q := by
  have hq : (q.num : Rat) ≠ 0 := ci h
  have d1 : ((p.den : Int) : Rat) ≠ 0 := ci (by have := p.den_nz; omega)
  have d2 : ((q.den : Int) : Rat) ≠ 0 := ci (by have := q.den_nz; omega)
  have e1 := r_self p
  have e2 := r_self q
  have : p / q = (((p.num : Int) : Rat) / (((p.den : Nat) : Int) : Rat)) / (((q.num : Int) : Rat) / (((q.den : Nat) : Int) : Rat)) := by rw [e1, e2]
  rw [this, Rat.intCast_mul, Rat.intCast_mul]
  grind
/-! fractions of ints -/
theorem f_add (a b c d : Int) (hb : b ≠ 0) (hd : d ≠ 0) : ((a * d + c * b : Int) : Rat) / ((b * d : Int) : Rat) = (a : Rat) / b + (c : Rat) / d := by
  have := ci hb
  have := ci hd
  rw [Rat.intCast_add, Rat.intCast_mul, Rat.intCast_mul, Rat.intCast_mul]
  grind
theorem f_sub (a b c d : Int) (hb : b ≠ 0) (hd : d ≠ 0) : ((a * d - c * b : Int) : Rat) / ((b * d : Int) : Rat) = (a : Rat) / b - (c : Rat) / d := by
  have := ci hb
  have := ci hd
  rw [Rat.intCast_sub, Rat.intCast_mul, Rat.intCast_mul, Rat.intCast_mul]
  grind
theorem f_mul (a b c d : Int) (hb : b ≠ 0) (hd : d ≠ 0) : ((a * c : Int) : Rat) / ((b * d : Int) : Rat) = (a : Rat) / b * ((c : Rat) / d) := by
  have := ci hb
  have := ci hd
  rw [Rat.intCast_mul, Rat.intCast_mul]
  grind
theorem f_neg (a b : Int) (hb : b ≠ 0) : ((-a : Int) : Rat) / (b : Rat) = -((a : Rat) / b) := by
  have := ci hb
  rw [Rat.intCast_neg]
  grind
theorem f_div (a b c d : Int) (hb : b ≠ 0) (hc : c ≠ 0) (hd : d ≠ 0) : ((a * d : Int) : Rat) / ((b * c : Int) : Rat) = (a : Rat) / b / ((c : Rat) / d) := by
  have := ci hb
  have := ci hc
  have := ci hd
  rw [Rat.intCast_mul, Rat.intCast_mul]
  grind
theorem f_neg3 (a b : Int) (hb : b ≠ 0) : ((-3 * a : Int) : Rat) / ((-3 * b : Int) : Rat) = (a : Rat) / b := by
  have := ci hb
  rw [Rat.intCast_mul, Rat.intCast_mul]
  grind
theorem f_zero (a b : Int) (hb : b ≠ 0) : ((a : Rat) / b = 0) ↔ a = 0 := by
  have := ci hb
  constructor
  · intro h
    have : (a : Rat) = 0 := by grind
    simpa using this
  · rintro rfl
    rw [Rat.div_def]
    simp
theorem num_zero (q : Rat) : q.num = 0 ↔ q = 0 := by simp
theorem f_eq (a b c d : Int) (hb : b ≠ 0) (hd : d ≠ 0) : ((a : Rat) / b = (c : Rat) / d) ↔ a * d = c * b := by
  have := ci hb
  have := ci hd
  constructor
  · intro h
    have : (a : Rat) * d = (c : Rat) * b := by grind
    rw [← Rat.intCast_mul, ← Rat.intCast_mul] at this
    exact Rat.intCast_inj.mp this
  · intro h
    have : (a : Rat) * d = (c : Rat) * b := by rw [← Rat.intCast_mul, ← Rat.intCast_mul, h]
    grind
theorem f_lt (a b c d : Int) (hb : b ≠ 0) (hd : d ≠ 0) : ((a * d - c * b) * b * d < 0) ↔ ((a : Rat) / b < (c : Rat) / d) := by
  have hb' := ci hb
  have hd' := ci hd
  have e : (((a * d - c * b) * b * d : Int) : Rat) = ((a : Rat) / b - (c : Rat) / d) * ((b : Rat) * d) * ((b : Rat) * d) := by
    rw [Rat.intCast_mul, Rat.intCast_mul, Rat.intCast_sub, Rat.intCast_mul, Rat.intCast_mul]
    grind
  have sq : 0 < ((b : Rat) * d) * ((b : Rat) * d) := by
    have h0 : (b : Rat) * d ≠ 0 := by grind
    have tri : (b : Rat) * d < 0 ∨ 0 < (b : Rat) * d := by grind
    rcases tri with h | h
    · have := Rat.mul_pos (Rat.neg_lt_neg h) (Rat.neg_lt_neg h)
      grind
    · exact Rat.mul_pos h h
  rw [← Rat.intCast_neg_iff, e, Rat.mul_assoc, Rat.mul_neg_iff_of_pos_right sq]
  constructor <;> intro h <;> grind
theorem lt_nd (p q : Rat) : (p.num * q.den < q.num * p.den) ↔ p < q := (Rat.lt_iff p q).symm
theorem eq_nd (p q : Rat) : (p.num = q.num ∧ (p.den : Int) = (q.den : Int)) ↔ p = q := by
  constructor
  · rintro ⟨h1, h2⟩
    exact Rat.ext h1 (by omega)
  · rintro rfl
    exact ⟨rfl, rfl⟩
/-! sizes -/
/-- both terms below 2 ^ n -/
structure Bd (n : Nat) (q : Rat) : Prop where
  num : q.num.natAbs < 2 ^ n
  den : q.den < 2 ^ n
def Sz (n : Nat) (i : Int) : Prop := i.natAbs < 2 ^ n
theorem sz0 {n : Nat} : Sz n 0 := Nat.two_pow_pos n
theorem sz1 {n : Nat} (h : n ≠ 0) : Sz n 1 := Nat.one_lt_two_pow h
theorem sz_of {n : Nat} {i : Int} (h : decide (i.natAbs < 2 ^ n) = true) : Sz n i := by
  unfold Sz
  exact of_decide_eq_true h
theorem Sz.mono {n m : Nat} {i : Int} (h : Sz n i) (hm : n ≤ m) : Sz m i := Nat.lt_of_lt_of_le h (Nat.pow_le_pow_right (by decide) hm)
theorem Bd.mono {n m : Nat} {q : Rat} (h : Bd n q) (hm : n ≤ m) : Bd m q :=
  ⟨Nat.lt_of_lt_of_le h.num (Nat.pow_le_pow_right (by decide) hm), Nat.lt_of_lt_of_le h.den (Nat.pow_le_pow_right (by decide) hm)⟩
theorem Sz.mul {n m : Nat} {i j : Int} (h : Sz n i) (h' : Sz m j) : Sz (n + m) (i * j) := by
  unfold Sz at *
  rw [Int.natAbs_mul, Nat.pow_add]
  exact Nat.mul_lt_mul_of_lt_of_lt h h'
theorem Sz.add {n : Nat} {i j : Int} (h : Sz n i) (h' : Sz n j) : Sz (n + 1) (i + j) := by
  unfold Sz at *
  rw [Nat.pow_succ]
  have := Int.natAbs_add_le i j
  omega
theorem Sz.sub {n : Nat} {i j : Int} (h : Sz n i) (h' : Sz n j) : Sz (n + 1) (i - j) := by
  unfold Sz at *
  rw [Nat.pow_succ]
  have := Int.natAbs_sub_le i j
  omega
theorem Sz.neg {n : Nat} {i : Int} (h : Sz n i) : Sz n (-i) := by
  unfold Sz at *
  rw [Int.natAbs_neg]
  exact h
theorem Bd.n {n : Nat} {q : Rat} (h : Bd n q) : Sz n q.num := h.num
theorem Bd.d {n : Nat} {q : Rat} (h : Bd n q) : Sz n (q.den : Int) := by
  have := h.den
  show ((q.den : Int)).natAbs < 2 ^ n
  simpa using this
theorem Bd.of {n : Nat} {t b : Int} (h : Sz n t) (h' : Sz n b) (hb : b ≠ 0) : Bd n ((t : Rat) / (b : Rat)) :=
  ⟨Nat.lt_of_le_of_lt (num_le t b) h, Nat.lt_of_le_of_lt (den_le t b hb) h'⟩
theorem den_ne (p : Rat) : (p.den : Int) ≠ 0 := by have := p.den_nz; omega
theorem Bd.add {n : Nat} {p q : Rat} (h : Bd n p) (h' : Bd n q) : Bd (n + n + 1) (p + q) := by
  rw [← r_add]
  refine .of ((h.n.mul h'.d).add (h'.n.mul h.d)) ((h.d.mul h'.d).mono (by omega)) ?_
  exact Int.mul_ne_zero (den_ne p) (den_ne q)
theorem Bd.sub {n : Nat} {p q : Rat} (h : Bd n p) (h' : Bd n q) : Bd (n + n + 1) (p - q) := by
  rw [← r_sub]
  refine .of ((h.n.mul h'.d).sub (h'.n.mul h.d)) ((h.d.mul h'.d).mono (by omega)) ?_
  exact Int.mul_ne_zero (den_ne p) (den_ne q)
theorem Bd.mul {n : Nat} {p q : Rat} (h : Bd n p) (h' : Bd n q) : Bd (n + n + 1) (p * q) := by
  rw [← r_mul]
  refine .of ((h.n.mul h'.n).mono (by omega)) ((h.d.mul h'.d).mono (by omega)) ?_
  exact Int.mul_ne_zero (den_ne p) (den_ne q)
theorem Bd.neg {n : Nat} {p : Rat} (h : Bd n p) : Bd n (-p) := ⟨by rw [Rat.neg_num, Int.natAbs_neg]; exact h.num, by rw [Rat.neg_den]; exact h.den⟩
/-! Euclid, as the law does it -/
theorem euclid_step {f s : Int} (hf : 0 ≤ f) (hs : 0 < s) : Nat.gcd s.natAbs (f % s).natAbs = Nat.gcd f.natAbs s.natAbs := by
  have e : (f % s).natAbs = f.natAbs % s.natAbs := by
    obtain ⟨a, rfl⟩ := Int.eq_ofNat_of_zero_le hf
    obtain ⟨b, rfl⟩ := Int.eq_ofNat_of_zero_le (Int.le_of_lt hs)
    rfl
  rw [e, Nat.gcd_comm s.natAbs, ← Nat.gcd_rec, Nat.gcd_comm]
end ZR

/-! shares dealt: the mathematics -/
namespace ZD
/-- a multiple of 1/D from 0 to M -/
structure Gd (D M : Nat) (q : Rat) : Prop where
  mul : ∃ n : Int, q * (D : Rat) = (n : Rat)
  lo : 0 ≤ q
  hi : q ≤ (M : Rat)
section
variable {D M D' M' : Nat} {p q : Rat}
theorem Gd.zero : Gd D M 0 := ⟨⟨0, by grind⟩, by grind, by exact_mod_cast Nat.zero_le M⟩
theorem Gd.sub (h : Gd D M p) (g : Gd D M q) (l : q ≤ p) : Gd D M (p - q) := by
  obtain ⟨n, hn⟩ := h.mul
  obtain ⟨m, hm⟩ := g.mul
  refine ⟨⟨n - m, ?_⟩, ?_, ?_⟩
  · rw [Rat.intCast_sub, ← hn, ← hm]; grind
  · grind
  · have := h.hi; have := g.lo; grind
theorem Gd.add (h : Gd D M p) (g : Gd D M' q) : Gd D (M + M') (p + q) := by
  obtain ⟨n, hn⟩ := h.mul
  obtain ⟨m, hm⟩ := g.mul
  refine ⟨⟨n + m, ?_⟩, ?_, ?_⟩
  · rw [Rat.intCast_add, ← hn, ← hm]; grind
  · have := h.lo; have := g.lo; grind
  · have := h.hi; have := g.hi
    rw [Rat.natCast_add]
    grind
theorem natR_mono {a b : Nat} (h : a ≤ b) : (a : Rat) ≤ (b : Rat) := Rat.natCast_le_natCast.mpr h
theorem Gd.mono (h : Gd D M q) (l : M ≤ M') : Gd D M' q := ⟨h.mul, h.lo, by have := h.hi; have := natR_mono l; grind⟩
theorem Gd.muls (h : Gd D M q) (k : Nat) : Gd (D * k) M q := by
  obtain ⟨n, hn⟩ := h.mul
  refine ⟨⟨n * k, ?_⟩, h.lo, h.hi⟩
  rw [Rat.natCast_mul, Rat.intCast_mul, ← hn]
  have : ((k : Int) : Rat) = (k : Rat) := rfl
  rw [this]
  grind
theorem Gd.muls' (h : Gd D M q) (k : Nat) : Gd (k * D) M q := by rw [Nat.mul_comm]; exact h.muls k
theorem Gd.bd (h : Gd D M q) {n : Nat} (hD : 0 < D) (l1 : D < 2 ^ n) (l2 : M * D < 2 ^ n) : ZR.Bd n q := by
  obtain ⟨z, hz⟩ := h.mul
  have hDi : ((D : Nat) : Int) ≠ 0 := by omega
  have hDr : (D : Rat) ≠ 0 := by
    have := ZR.ci hDi
    simpa using this
  have e : q = (z : Rat) / (((D : Nat) : Int) : Rat) := by
    rw [← hz]
    have : (((D : Nat) : Int) : Rat) = (D : Rat) := rfl
    rw [this]
    grind
  have z0 : 0 ≤ z := by
    have h1 : (0 : Rat) ≤ (z : Rat) := by
      rw [← hz]
      exact Rat.mul_nonneg h.lo (by have := natR_mono (Nat.zero_le D); exact_mod_cast this)
    exact_mod_cast h1
  have zM : z ≤ ((M * D : Nat) : Int) := by
    have h1 : (z : Rat) ≤ ((M * D : Nat) : Rat) := by
      rw [← hz, Rat.natCast_mul]
      exact Rat.mul_le_mul_of_nonneg_right h.hi (by have := natR_mono (Nat.zero_le D); exact_mod_cast this)
    exact_mod_cast h1
  rw [e]
  exact ZR.Bd.of (show z.natAbs < 2 ^ n by omega) (show ((D : Nat) : Int).natAbs < 2 ^ n by simpa using l1) hDi
end
section
variable {α : Type}
def sm (L : List (α × Rat)) : Rat := L.foldl (fun s x => s + x.2) 0
theorem fold_add : ∀ (L : List (α × Rat)) (a : Rat), L.foldl (fun s x => s + x.2) a = a + L.foldl (fun s x => s + x.2) 0
  | [], a => by simp; grind
  | x :: L, a => by
    rw [List.foldl_cons, List.foldl_cons, fold_add L, fold_add L (0 + x.2)]
    grind
theorem sm_nil : sm ([] : List (α × Rat)) = 0 := rfl
theorem sm_cons (x : α × Rat) (L : List (α × Rat)) : sm (x :: L) = x.2 + sm L := by
  show L.foldl _ (0 + x.2) = _
  rw [fold_add]
  unfold sm
  grind
theorem sm_snoc (L : List (α × Rat)) (x : α × Rat) : sm (L ++ [x]) = sm L + x.2 := by
  unfold sm
  rw [List.foldl_append]
  rfl
theorem sm_app (L R : List (α × Rat)) : sm (L ++ R) = sm L + sm R := by
  induction L with
  | nil => rw [List.nil_append, sm_nil]; grind
  | cons x L ih => rw [List.cons_append, sm_cons, sm_cons, ih]; grind
theorem sm_rev (L : List (α × Rat)) : sm L.reverse = sm L := by
  induction L with
  | nil => rfl
  | cons x L ih => rw [List.reverse_cons, sm_snoc, sm_cons, ih]; grind
theorem sm_pos {L : List (α × Rat)} (h : ∀ x ∈ L, 0 < x.2) : 0 ≤ sm L := by
  induction L with
  | nil => rw [sm_nil]; grind
  | cons x L ih =>
    rw [sm_cons]
    have := ih fun y hy => h y (List.mem_cons_of_mem _ hy)
    have := h x List.mem_cons_self
    grind
theorem sm_gd {D M : Nat} {L : List (α × Rat)} (h : ∀ x ∈ L, Gd D M x.2) : Gd D (L.length * M) (sm L) := by
  induction L with
  | nil => rw [sm_nil]; exact Gd.zero
  | cons x L ih =>
    rw [sm_cons, List.length_cons, Nat.succ_mul, Nat.add_comm]
    exact (h x List.mem_cons_self).add (ih fun y hy => h y (List.mem_cons_of_mem _ hy))
/-- what goes together -/
def deal : List (α × Rat) → List (α × Rat) → List (α × α × Rat)
  | (a, p) :: xs, (b, q) :: ys =>
    if p < q then (a, b, p) :: deal xs ((b, q - p) :: ys)
    else if p = q then (a, b, p) :: deal xs ys
    else (a, b, q) :: deal ((a, p - q) :: xs) ys
  | [], _ => []
  | _ :: _, [] => []
termination_by xs ys => xs.length + ys.length
theorem deal_nil (ys : List (α × Rat)) : deal [] ys = [] := by rw [deal]
theorem deal_nil' (xs : List (α × Rat)) : deal xs [] = [] := by
  cases xs with
  | nil => rw [deal]
  | cons x xs => rw [deal]
theorem deal_lt {a b : α} {p q : Rat} {xs ys : List (α × Rat)} (h : p < q) : deal ((a, p) :: xs) ((b, q) :: ys) = (a, b, p) :: deal xs ((b, q - p) :: ys) := by rw [deal, if_pos h]
theorem deal_eq {a b : α} {p : Rat} {xs ys : List (α × Rat)} : deal ((a, p) :: xs) ((b, p) :: ys) = (a, b, p) :: deal xs ys := by rw [deal, if_neg (by grind), if_pos rfl]
theorem deal_gt {a b : α} {p q : Rat} {xs ys : List (α × Rat)} (h : q < p) : deal ((a, p) :: xs) ((b, q) :: ys) = (a, b, q) :: deal ((a, p - q) :: xs) ys := by rw [deal, if_neg (by grind), if_neg (by grind)]
theorem deal_len : ∀ (n : Nat) (xs ys : List (α × Rat)), xs.length + ys.length ≤ n → (deal xs ys).length ≤ xs.length + ys.length - 1
  | _, [], ys, _ => by rw [deal_nil]; exact Nat.zero_le _
  | _, x :: xs, [], _ => by rw [deal_nil']; exact Nat.zero_le _
  | 0, x :: xs, y :: ys, h => by simp at h
  | n + 1, (a, p) :: xs, (b, q) :: ys, h => by
    simp only [List.length_cons] at h ⊢
    by_cases e1 : p < q
    · rw [deal_lt e1, List.length_cons]
      have := deal_len n xs ((b, q - p) :: ys) (by simp only [List.length_cons]; omega)
      simp only [List.length_cons] at this
      omega
    · by_cases e2 : p = q
      · subst e2
        rw [deal_eq, List.length_cons]
        have := deal_len n xs ys (by omega)
        omega
      · rw [deal_gt (by grind), List.length_cons]
        have := deal_len n ((a, p - q) :: xs) ys (by simp only [List.length_cons]; omega)
        simp only [List.length_cons] at this
        omega
end
end ZD

namespace ZD
theorem Gd.form {D M : Nat} {q : Rat} (h : Gd D M q) (hD : 0 < D) : ∃ z : Int, q = (z : Rat) / (((D : Nat) : Int) : Rat) ∧ 0 ≤ z ∧ z ≤ ((M * D : Nat) : Int) := by
  obtain ⟨z, hz⟩ := h.mul
  have hDi : ((D : Nat) : Int) ≠ 0 := by omega
  have hDr : (D : Rat) ≠ 0 := by
    have := ZR.ci hDi
    simpa using this
  have D0 : (0 : Rat) ≤ (D : Rat) := by have := natR_mono (Nat.zero_le D); exact_mod_cast this
  refine ⟨z, ?_, ?_, ?_⟩
  · rw [← hz]
    have : (((D : Nat) : Int) : Rat) = (D : Rat) := rfl
    rw [this]
    grind
  · have h1 : (0 : Rat) ≤ (z : Rat) := by
      rw [← hz]
      exact Rat.mul_nonneg h.lo D0
    exact_mod_cast h1
  · have h1 : (z : Rat) ≤ ((M * D : Nat) : Rat) := by
      rw [← hz, Rat.natCast_mul]
      exact Rat.mul_le_mul_of_nonneg_right h.hi D0
    exact_mod_cast h1
theorem Gd.den {D M : Nat} {q : Rat} (h : Gd D M q) (hD : 0 < D) : q.den ≤ D := by
  obtain ⟨z, e, _⟩ := h.form hD
  rw [e]
  have := ZR.den_le z ((D : Nat) : Int) (by omega)
  simpa using this
theorem Gd.num {D M : Nat} {q : Rat} (h : Gd D M q) (hD : 0 < D) : q.num.natAbs ≤ M * D := by
  obtain ⟨z, e, z0, z1⟩ := h.form hD
  rw [e]
  have := ZR.num_le z ((D : Nat) : Int)
  omega
theorem num_pos {S : Rat} (h : 0 < S) : 0 < S.num := by
  have := (ZR.lt_nd 0 S).mpr h
  simpa using this
theorem inv_form {S : Rat} (h : 0 < S) : S⁻¹ = ((S.den : Int) : Rat) / (S.num : Rat) := by
  have e := ZR.r_self S
  have n0 := num_pos h
  have hn : (S.num : Rat) ≠ 0 := ZR.ci (by omega)
  have hd : ((S.den : Int) : Rat) ≠ 0 := ZR.ci (by have := S.den_nz; omega)
  have hS : S ≠ 0 := by grind
  have e2 : (S.num : Rat) = S * ((S.den : Int) : Rat) := by
    conv => rhs; rw [← e]
    grind
  have e3 : S⁻¹ * (S.num : Rat) = ((S.den : Int) : Rat) := by
    rw [e2]
    grind
  rw [← e3]
  grind
theorem inv_nd {S : Rat} (h : 0 < S) : S⁻¹.num = (S.den : Int) ∧ (S⁻¹.den : Int) = S.num := by
  have n0 := num_pos h
  have sg1 : ZR.sg (S.den : Int) S.num = 1 := by
    unfold ZR.sg
    rw [if_neg (by omega)]
    have : Nat.gcd (S.den : Int).natAbs S.num.natAbs = 1 := by
      have := S.reduced
      rw [Nat.gcd_comm]
      simpa using this
    rw [this]
    rfl
  have h1 := ZR.norm_num (S.den : Int) S.num (by omega)
  have h2 := ZR.norm_den (S.den : Int) S.num (by omega)
  rw [sg1, ← inv_form h] at h1 h2
  exact ⟨by rw [← h1]; simp, by rw [← h2]; simp⟩
theorem gd_scaled {p W S : Rat} (hp : Gd 60 (10 ^ 12) p) (hW : Gd 60 (6 * 10 ^ 12) W) (h0 : 0 < S) (hS : Gd 60 (6 * 10 ^ 12) S) : Gd (3600 * S.num.natAbs) (2 ^ 90) (p * W * S⁻¹) := by
  obtain ⟨a, ha⟩ := hp.mul
  obtain ⟨b, hb⟩ := hW.mul
  have n0 := num_pos h0
  have hn : (S.num : Rat) ≠ 0 := ZR.ci (by omega)
  have e3 : S⁻¹ * (S.num : Rat) = ((S.den : Int) : Rat) := by
    rw [inv_form h0]
    grind
  have eN : ((S.num.natAbs : Nat) : Rat) = (S.num : Rat) := by
    have : ((S.num.natAbs : Nat) : Int) = S.num := by omega
    have h2 : (((S.num.natAbs : Nat) : Int) : Rat) = ((S.num.natAbs : Nat) : Rat) := rfl
    rw [← h2, this]
  have i0 : 0 ≤ S⁻¹ := by
    have nR : (0 : Rat) < (S.num : Rat) := by exact_mod_cast n0
    have dR : (0 : Rat) ≤ ((S.den : Int) : Rat) := by exact_mod_cast (show (0 : Int) ≤ (S.den : Int) by omega)
    refine Rat.not_lt.mp fun hlt => ?_
    have h1 : 0 < (-S⁻¹) * (S.num : Rat) := Rat.mul_pos (by grind) nR
    grind
  have pl := hp.lo
  have wl := hW.lo
  have pw : 0 ≤ p * W := Rat.mul_nonneg pl wl
  refine ⟨⟨a * b * (S.den : Int), ?_⟩, Rat.mul_nonneg pw i0, ?_⟩
  · rw [Rat.natCast_mul, eN, Rat.intCast_mul, Rat.intCast_mul, ← ha, ← hb, ← e3]
    have : ((3600 : Nat) : Rat) = ((60 : Nat) : Rat) * ((60 : Nat) : Rat) := by decide +kernel
    rw [this]
    grind
  · have il : S⁻¹ ≤ ((60 : Nat) : Rat) := by
      have h1 : (1 : Rat) ≤ (S.num : Rat) := by exact_mod_cast (show (1 : Int) ≤ S.num by omega)
      have h2 : S⁻¹ * 1 ≤ S⁻¹ * (S.num : Rat) := Rat.mul_le_mul_of_nonneg_left h1 i0
      rw [e3] at h2
      have h3 := hS.den (by decide)
      have h4 : ((S.den : Int) : Rat) ≤ ((60 : Nat) : Rat) := by exact_mod_cast natR_mono h3
      grind
    have h1 : p * W ≤ ((10 ^ 12 : Nat) : Rat) * ((6 * 10 ^ 12 : Nat) : Rat) := by
      have a1 : p * W ≤ ((10 ^ 12 : Nat) : Rat) * W := Rat.mul_le_mul_of_nonneg_right hp.hi wl
      have a2 : ((10 ^ 12 : Nat) : Rat) * W ≤ ((10 ^ 12 : Nat) : Rat) * ((6 * 10 ^ 12 : Nat) : Rat) := Rat.mul_le_mul_of_nonneg_left hW.hi (by decide +kernel)
      grind
    have h2 : p * W * S⁻¹ ≤ ((10 ^ 12 : Nat) : Rat) * ((6 * 10 ^ 12 : Nat) : Rat) * ((60 : Nat) : Rat) := by
      have a1 : p * W * S⁻¹ ≤ ((10 ^ 12 : Nat) : Rat) * ((6 * 10 ^ 12 : Nat) : Rat) * S⁻¹ := Rat.mul_le_mul_of_nonneg_right h1 i0
      have a2 : ((10 ^ 12 : Nat) : Rat) * ((6 * 10 ^ 12 : Nat) : Rat) * S⁻¹ ≤ ((10 ^ 12 : Nat) : Rat) * ((6 * 10 ^ 12 : Nat) : Rat) * ((60 : Nat) : Rat) := Rat.mul_le_mul_of_nonneg_left il (by decide +kernel)
      grind
    have h3 : ((10 ^ 12 : Nat) : Rat) * ((6 * 10 ^ 12 : Nat) : Rat) * ((60 : Nat) : Rat) ≤ ((2 ^ 90 : Nat) : Rat) := by decide +kernel
    grind
theorem sm_scale {α : Type} (c : Rat) : ∀ L : List (α × Rat), sm (L.map fun x => (x.1, x.2 * c)) = sm L * c
  | [] => by
    show (0 : Rat) = 0 * c
    grind
  | x :: L => by
    rw [List.map_cons, sm_cons, sm_cons, sm_scale c L]
    grind
theorem sm_gt {α : Type} {L : List (α × Rat)} (hn : L ≠ []) (h : ∀ x ∈ L, 0 < x.2) : 0 < sm L := by
  cases L with
  | nil => exact absurd rfl hn
  | cons x L =>
    rw [sm_cons]
    have h1 := h x List.mem_cons_self
    have h2 := sm_pos (L := L) fun y hy => h y (List.mem_cons_of_mem _ hy)
    grind
end ZD

set_option Elab.async false
set_option linter.all false
set_option maxRecDepth 100000
set_option maxHeartbeats 4000000
/-! general rules of our own -/
namespace Z
open PySem PySem.Spec PyProof.Rows L2

/-- nothing is let out -/
abbrev EN : L2.St → XK := fun _ _ _ _ => False
theorem cxN {P : Program} {w : World} {outer : List Env} {H : Hp} {s s' : Shared} {e : Value} (h : L2.CX P w outer H s (fun _ _ _ => False) e s') : False := by
  obtain ⟨_, _, _, _, _, _, _, _, _, _, _, _, z⟩ := h
  exact z
theorem passN {X : Cx} : ∀ σ, PassesAt (L2.CX X.prog X.w) X σ (EN σ) := fun σ pins H s e s' _ h => by
  obtain ⟨_, _, _, _, _, _, _, _, _, _, _, _, z⟩ := h
  exact z.elim

section
variable {X : Cx} {CX : CXT} {k : Nat} {f C g : Addr} {sp : Sp} {E : L2.St → XK} {x m : Str} {p pos apos : Pos} {e o : Expr} {es : List Expr} {ta te : TE} {t : TA}

theorem runR {pins : List (Addr × Obj)} {σ : L2.St} {H : Hp} {s : Shared} {Q : VK} {us : List Value} {vs : List V}
    (F : FnR X.prog X.w X.K X.mg X.base CX k f sp) (hr : Room k X.A) (hx : ∀ σ, PassesAt CX X σ (E σ)) (I : Inv X pins σ H s)
    (r : Vals vs us) (h : sp vs H Q (E σ)) : wpAny (model X.prog X.w) X.A (call (.ref f) us) (EP X pins σ Q) X.xe s := by
  refine wpAny_call (codeAny_mono (F X.A X.stack s H us vs Q (E σ) hr I.env0 r h) fun q s' hq => ?_)
  rcases q with e | fl
  · exact hx σ pins H s e s' I hq
  · rcases fl with _ | _ | _ | u
    · exact False.elim hq
    · exact False.elim hq
    · exact False.elim hq
    · exact I.after hq

/-- f(e, ..) -/
theorem z_call (F : FnR X.prog X.w X.K X.mg X.base CX k f sp) (hr : Room k X.A) (hm : X.mg x = some (.ref f)) (hk : PySem.W.keepIn X.K (.ref f) = true)
    (hx : ∀ σ, PassesAt CX X σ (E σ)) (ha : PA X (e :: es) t) (hg : Gl X x := by rfl) (hdb : (x == ("__debug__" : Str)) = false := by decide)
    (he : starEach (e :: es) X.env = (false, eval e X.env) :: starEach es X.env := by rfl)
    (hpl : (backTo pos (starEach es X.env)).any (·.1) = false := by rfl) : PE X (.Call (.Name x p) (e :: es) [] pos) (tCallS sp E t) := by
  constructor
  intro pins s σ H Q I h
  apply wpAny_Call_Name_kw
  apply ld_glob I hg hm _ hdb
  apply PySem.W.callWith_K (h₀ := X.base) I.ok.mod.kin hk _ he hpl
  refine thn (ha.run pos pins s σ H _ I h) fun us s1 hh => ?_
  obtain ⟨vs, H1, I1, r, q⟩ := hh
  exact ⟨I1.kIn, runR F hr hx I1 r q⟩
theorem z_call0 (F : FnR X.prog X.w X.K X.mg X.base CX k f sp) (hr : Room k X.A) (hm : X.mg x = some (.ref f)) (hk : PySem.W.keepIn X.K (.ref f) = true)
    (hx : ∀ σ, PassesAt CX X σ (E σ)) (hg : Gl X x := by rfl) (hdb : (x == ("__debug__" : Str)) = false := by decide) :
    PE X (.Call (.Name x p) [] [] pos) (tCallS sp E tNil) := by
  constructor
  intro pins s σ H Q I h
  apply wpAny_Call_Name_kw
  apply ld_glob I hg hm _ hdb
  exact PySem.W.callWith_K0 I.kIn hk (runR (us := []) F hr hx I .nil h)

/-- o.m(e, ..) -/
def tMethS (C : Addr) (m : Str) (sp : Sp) (E : L2.St → XK) (ta : TE) (t : TA) : TE := fun σ H Q => ta σ H fun x H1 =>
  ∃ a dx fs, x = .ref a ∧ H1 a = some (.ins C dx fs) ∧ fs.lookup m = none ∧ t σ H1 fun vs H2 => sp (x :: vs) H2 Q (E σ)
theorem z_meth {pl : Sem Bool} (he : PE X o ta) (c : Cls X.K C) (hm : Meth X.K C m f) (F : FnR X.prog X.w X.K X.mg X.base CX k f sp) (hr : Room k X.A)
    (hx : ∀ σ, PassesAt CX X σ (E σ)) (ha : PA X (e :: es) t)
    (hst : starEach (e :: es) X.env = (false, eval e X.env) :: starEach es X.env := by rfl)
    (hpl : (backTo pos (starEach es X.env)).any (·.1) = false := by rfl)
    (ht : eval (.Call (.Attribute o m apos) (e :: es) [] pos) X.env = (do
      let ov ← eval o X.env
      standAt apos.atName
      let (f, first) ← holding [ov] (getMethod ov m pl)
      callWith pos f first (backTo pos (starEach (e :: es) X.env)) (backToKw pos (keywordEach [] X.env))) := by rfl) :
    PE X (.Call (.Attribute o m apos) (e :: es) [] pos) (tMethS C m sp E ta t) := by
  constructor
  intro pins s σ H Q I h
  refine PySem.W.methodCall_KW (pl := pl) (thn (he.run pins s σ H _ I h) fun u s1 hh => ?_) ht
  obtain ⟨x, H1, I1, rx, a, dx, fs, ex, ea, l, q⟩ := hh
  subst ex
  obtain rfl : u = Value.ref a := rx
  apply getmeth_ok I1 ea c hm l
  apply PySem.W.callWith_K (first := [.ref a]) (h₀ := X.base) I.ok.mod.kin hm.kp _ hst hpl
  refine thn (ha.run pos pins s1 σ H1 _ I1 q) fun us s2 hh => ?_
  obtain ⟨vs, H2, I2, r, q2⟩ := hh
  exact ⟨I2.kIn, runR (us := .ref a :: us) (vs := .ref a :: vs) F hr hx I2 (.cons rfl r) q2⟩
theorem z_meth0 {pl : Sem Bool} (he : PE X o ta) (c : Cls X.K C) (hm : Meth X.K C m f) (F : FnR X.prog X.w X.K X.mg X.base CX k f sp) (hr : Room k X.A)
    (hx : ∀ σ, PassesAt CX X σ (E σ))
    (ht : eval (.Call (.Attribute o m apos) [] [] pos) X.env = (do
      let ov ← eval o X.env
      standAt apos.atName
      let (f, first) ← holding [ov] (getMethod ov m pl)
      callWith pos f first (backTo pos (starEach [] X.env)) (backToKw pos (keywordEach [] X.env))) := by rfl) :
    PE X (.Call (.Attribute o m apos) [] [] pos) (tMethS C m sp E ta tNil) := by
  constructor
  intro pins s σ H Q I h
  refine PySem.W.methodCall_KW (pl := pl) (thn (he.run pins s σ H _ I h) fun u s1 hh => ?_) ht
  obtain ⟨x, H1, I1, rx, a, dx, fs, ex, ea, l, q⟩ := hh
  subst ex
  obtain rfl : u = Value.ref a := rx
  apply getmeth_ok I1 ea c hm l
  exact PySem.W.callWith_K0 (first := [.ref a]) I1.kIn hm.kp (runR (us := [.ref a]) (vs := [.ref a]) F hr hx I1 (.cons rfl .nil) q)

/-- C(e, ..) -/
def tMakeS (C : Addr) (sp : Sp) (E : L2.St → XK) (t : TA) : TE := fun σ H Q => t σ H fun vs H1 => ∀ x dx, H1 x = Option.none → H1 dx = Option.none → dx ≠ x →
  sp (V.ref x :: vs) (upd (upd H1 dx (.own x)) x (.ins C dx [])) (fun v H2 => v = .non ∧ Q (.ref x) H2)
    (fun cls d H2 => E σ cls d H2)
theorem runMake {pins : List (Addr × Obj)} {σ : L2.St} {H : Hp} {s : Shared} {Q : VK} {us : List Value} {vs : List V} (M : Mk X.K C f)
    (F : FnR X.prog X.w X.K X.mg X.base CX k f sp) (hr : Room (k + 1) X.A) (hx : ∀ σ, PassesAt CX X σ (E σ)) (I : Inv X pins σ H s) (r : Vals vs us)
    (h : ∀ x dx, H x = Option.none → H dx = Option.none → dx ≠ x →
      sp (V.ref x :: vs) (upd (upd H dx (.own x)) x (.ins C dx [])) (fun v H2 => v = .non ∧ Q (.ref x) H2) (E σ)) :
    wpAny (model X.prog X.w) X.A (call (.ref C) us) (EP X pins σ Q) X.xe s := by
  have hq := h (s.heap.objs.size + 1) s.heap.objs.size (I.hok.fresh (Nat.le_succ _)) (I.hok.fresh (Nat.le_refl _)) (Nat.ne_of_lt (Nat.lt_succ_self _))
  have I2 := Inv.made (C := C) I
  have r2 : Vals (V.ref (s.heap.objs.size + 1) :: vs) (Value.ref (s.heap.objs.size + 1) :: us) := .cons rfl r
  refine wpAny_call (make_map (f := f) I.kIn M.makes M.init (beq_iff_eq.mp M.fn) (codeAny_mono (F _ X.stack _ _ _ _ _ (E σ)
    (hr.make C us []) (I2.env0.make C us []) r2 hq) fun q s' hq' => ?_))
  rcases q with e | fl
  · exact hx σ pins _ _ e s' I2 hq'
  · rcases fl with _ | _ | _ | u
    · exact False.elim hq'
    · exact False.elim hq'
    · exact False.elim hq'
    · obtain ⟨v, H', I3, rv, ev, q3⟩ := I2.after hq'
      subst ev
      exact ⟨rv, ⟨V.ref (s.heap.objs.size + 1), H', I3, rfl, q3⟩⟩
theorem z_make (M : Mk X.K C f) (F : FnR X.prog X.w X.K X.mg X.base CX k f sp) (hr : Room (k + 1) X.A) (hm : X.mg x = some (.ref C))
    (hx : ∀ σ, PassesAt CX X σ (E σ)) (ha : PA X (e :: es) t) (hg : Gl X x := by rfl) (hdb : (x == ("__debug__" : Str)) = false := by decide)
    (he : starEach (e :: es) X.env = (false, eval e X.env) :: starEach es X.env := by rfl)
    (hpl : (backTo pos (starEach es X.env)).any (·.1) = false := by rfl) : PE X (.Call (.Name x p) (e :: es) [] pos) (tMakeS C sp E t) := by
  constructor
  intro pins s σ H Q I h
  apply wpAny_Call_Name_kw
  apply ld_glob I hg hm _ hdb
  apply PySem.W.callWith_K (h₀ := X.base) I.ok.mod.kin M.kp _ he hpl
  refine thn (ha.run pos pins s σ H _ I h) fun us s1 hh => ?_
  obtain ⟨vs, H1, I1, r, q⟩ := hh
  exact ⟨I1.kIn, runMake M F hr hx I1 r q⟩
end
end Z

set_option Elab.async false
set_option linter.all false
set_option maxRecDepth 100000
set_option maxHeartbeats 4000000
namespace Z
open PySem PySem.Spec PyProof.Rows L2

/-- a special method of an own class -/
structure Spc (K : PySem.W.Frag) (C : Addr) (n : Str) (f : Addr) : Prop where
  at_ : PySem.W.findIn K (.ref C) n = some (some (.ref f))
  fn : PySem.W.isFn K (.ref f) = true

section
variable {X : Cx} {k : Nat} {f C g : Addr} {sp : Sp}

theorem instAt {pins : List (Addr × Obj)} {σ : L2.St} {H : Hp} {s : Shared} {a dx : Addr} {fs : List (Str × V)} (I : Inv X pins σ H s)
    (e : H a = some (.ins C dx fs)) : ∃ ox od, PySem.W.InstAt s.heap a ox C od := by
  obtain ⟨mA, O, _⟩ := ins_get I.hok e
  obtain ⟨od, J, _⟩ := O.look
  exact ⟨_, _, J⟩
theorem cmpBack {A : Around} {E : Value → Shared → Prop} {pins : List (Addr × Obj)} {σ : L2.St} {Q : VK} {f : Addr} {us : List Value} {s : Shared}
    (h : wpAny (model X.prog X.w) A (call (.ref f) us) (EP X pins σ Q) E s) :
    wpAny (model X.prog X.w) A (call (.ref f) us) (PySem.W.CmpBack (EP X pins σ Q)) E s := by
  refine wpAny_mono h (fun v s' hv => ?_) fun _ _ z => z
  have hne : v ≠ .notImplemented := by
    rintro rfl
    obtain ⟨x, H', _, r, _⟩ := hv
    cases x
    case int => obtain ⟨t, q⟩ := r; cases q
    case str => obtain ⟨t, q⟩ := r; cases q
    case byt => obtain ⟨t, q⟩ := r; cases q
    case flt => obtain ⟨t, q⟩ := r; cases q
    all_goals cases r
  cases v
  case notImplemented => exact absurd rfl hne
  all_goals exact hv

/-- a op b, both instances of the class at C that has the operator's def -/
def rOwn (C : Addr) (sp : Sp) : R2 := fun x y H Q => ∃ a b dx dy fs gs, x = .ref a ∧ y = .ref b ∧ H a = some (.ins C dx fs) ∧ H b = some (.ins C dy gs) ∧
  sp [x, y] H Q (fun _ _ _ => False)
theorem op_own {op : Operator} (F : FnR X.prog X.w X.K X.mg X.base (L2.CX X.prog X.w) k f sp) (hr : Room k X.A)
    (hf : PySem.W.selfFirst X.K C = true) (S : Spc X.K C (PySem.dunder op.info.2) f) : OpR X (binaryOp op) (rOwn C sp) := by
  intro pins s σ H x y v u Q I rx ry h
  obtain ⟨a, b, dx, dy, fs, gs, rfl, rfl, ea, eb, h⟩ := h
  obtain rfl : v = Value.ref a := rx
  obtain rfl : u = Value.ref b := ry
  obtain ⟨ox, od, Ja⟩ := instAt I ea
  obtain ⟨oy, oe, Jb⟩ := instAt I eb
  obtain ⟨m, fr⟩ := I.fr
  apply PySem.W.binop_K fr I.ok.mod.kin Ja Jb.type hf S.at_ S.fn
  exact cmpBack (runR (us := [.ref a, .ref b]) (vs := [.ref a, .ref b]) (E := EN) F hr passN I (.cons rfl (.cons rfl .nil)) h)
/-- -a -/
def rOwn1 (C : Addr) (sp : Sp) : V → Hp → VK → Prop := fun x H Q => ∃ a dx fs, x = .ref a ∧ H a = some (.ins C dx fs) ∧ sp [x] H Q (fun _ _ _ => False)
theorem un_own (F : FnR X.prog X.w X.K X.mg X.base (L2.CX X.prog X.w) k f sp) (hr : Room k X.A) (S : Spc X.K C "__neg__" f) :
    UnR X (unaryOp .USub) (rOwn1 C sp) := by
  intro pins s σ H x v Q I rx h
  obtain ⟨a, dx, fs, rfl, ea, h⟩ := h
  obtain rfl : v = Value.ref a := rx
  obtain ⟨ox, od, Ja⟩ := instAt I ea
  obtain ⟨m, fr⟩ := I.fr
  apply PySem.W.ksp_neg fr I.ok.mod.kin Ja S.at_ S.fn
  exact runR (us := [.ref a]) (vs := [.ref a]) (E := EN) F hr passN I (.cons rfl .nil) h

/-! ### == and != by an own __eq__ -/
/-- the class of a value, as the other side of == -/
inductive Side (K : PySem.W.Frag) (C : Addr) (H : Hp) : V → Value → Prop where
  | ins {b dy : Addr} {gs : List (Str × V)} (e : H b = some (.ins C dy gs)) : Side K C H (.ref b) (.ref C)
  | lst {b : Addr} {xs : List V} (e : H b = some (.lst xs)) : Side K C H (.ref b) (.type "list")
  | int (i : Int) : Side K C H (.int i) (.type "int")
  | str (z : Str) : Side K C H (.str z) (.type "str")
theorem Side.look {K : PySem.W.Frag} {pins : List (Addr × Obj)} {σ : L2.St} {H : Hp} {s : Shared} {y : V} {u t : Value} (S : Side X.K C H y t) (I : Inv X pins σ H s) (r : RelV y u) :
    PySem.W.Looks (model X.prog X.w) s.heap (typeOf u) t := by
  cases S with
  | @ins b dy gs e =>
    obtain rfl : u = Value.ref b := r
    obtain ⟨ox, od, J⟩ := instAt I e
    exact J.type
  | @lst b xs e =>
    obtain rfl : u = Value.ref b := r
    obtain ⟨_, its, n, _, h1⟩ := (show ObjOk X.prog X.w H s.heap b (.lst xs) from I.hok b _ e)
    intro A Q E s' k q
    exact wpAny_typeOf_ref (k _ _ h1) q
  | int i =>
    obtain ⟨t, rfl⟩ := r
    exact PySem.W.Looks.of_pure rfl
  | str z =>
    obtain ⟨t, rfl⟩ := r
    exact PySem.W.Looks.of_pure rfl

def rOwnC (K : PySem.W.Frag) (C : Addr) (sp : Sp) : R2 := fun x y H Q => ∃ a dx fs t, x = .ref a ∧ H a = some (.ins C dx fs) ∧ Side K C H y t ∧ PySem.W.notFirst K C t = true ∧
  sp [x, y] H Q (fun _ _ _ => False)
theorem op_eqOwn (F : FnR X.prog X.w X.K X.mg X.base (L2.CX X.prog X.w) k f sp) (hr : Room k X.A) (S : Spc X.K C "__eq__" f) :
    OpR X (compareOp .Eq) (rOwnC X.K C sp) := by
  intro pins s σ H x y v u Q I rx ry h
  obtain ⟨a, dx, fs, t, rfl, ea, sd, hn, h⟩ := h
  obtain rfl : v = Value.ref a := rx
  obtain ⟨ox, od, Ja⟩ := instAt I ea
  obtain ⟨m, fr⟩ := I.fr
  have hu := hr.units0
  apply PySem.W.cmp_K (op := .Eq) hu fr I.ok.mod.kin Ja (sd.look (K := X.K) I ry) hn S.at_ S.fn
  exact cmpBack (runR (us := [.ref a, u]) (vs := [.ref a, y]) (E := EN) F hr passN I (.cons rfl (.cons ry .nil)) h)

/-- what the class says of != : it is left to object -/
structure NeC (K : PySem.W.Frag) (C : Addr) : Prop where
  at_ : PySem.W.findIn K (.ref C) "__ne__" = some (some (.builtin "object.__ne__"))
  ob : PySem.W.subIn K (.ref C) (.type "object") = some true
theorem objNe {A : Around} {E : Value → Shared → Prop} {s : Shared} {K : PySem.W.Frag} {a : Addr} {ox : Obj} {od : Option Obj} {b : Value} {Q : Fin → Shared → Prop} {prog : Program} {w : World}
    (hk : K.In s.heap) (J : PySem.W.InstAt s.heap a ox C od) (S : Spc K C "__eq__" f) (hu : A.units < cLine)
    (h : wpAny (model prog w) A (call (.ref f) [.ref a, b]) (fun v s' => ∃ r, v = .bool r ∧ Q (.done (.ret (.bool (!r)))) s') E s) :
    wpAny (model prog w) A (Builtin.«object.__ne__» ⟨[.ref a, b], []⟩) Q E s := by
  have one : wpAny (model prog w) A (callSpecialIfBound? (.ref a) (Str.ofString "__eq__") [b]) (fun o s' => ∃ r, o = some (.bool r) ∧ Q (.done (.ret (.bool (!r)))) s') E s := by
    refine PySem.W.ifBound_K hk J S.at_ S.fn (wpAny_mono h (fun v s' hv => ?_) fun _ _ z => z)
    obtain ⟨r, rfl, q⟩ := hv
    exact ⟨r, rfl, q⟩
  unfold Builtin.«object.__ne__»
  repeat (first
    | with_reducible refine wpAny_cRoomFor hu ?_
    | (refine wpAny_bind (m := callSpecialIfBound? (.ref a) (Str.ofString "__eq__") [b]) (wpAny_mono one (fun o s' hv => by
          obtain ⟨r, rfl, q⟩ := hv
          repeat (first | exact q | exact wpAny_pure q | exact wpAny_truthy_bool q | (refine wpAny_bind (m := truthy (.bool _)) (wpAny_truthy_bool ?_)) | wp_step)) fun _ _ z => z))
    | wp_step)
theorem neTry {A : Around} {E : Value → Shared → Prop} {s : Shared} {K : PySem.W.Frag} {a : Addr} {ox : Obj} {od : Option Obj} {b : Value} {Q : Value → Shared → Prop} {prog : Program} {w : World}
    (hk : K.In s.heap) (J : PySem.W.InstAt s.heap a ox C od) (S : Spc K C "__eq__" f) (N : NeC K C) (hu : A.in1.units < cLine)
    (h : wpAny (model prog w) A.in1 (call (.ref f) [.ref a, b]) (fun v s' => ∃ r, v = .bool r ∧ Q (.bool (!r)) s') E s) :
    wpAny (model prog w) A (tryCompare (.ref a) "__ne__" b) (fun o s' => ∃ v, o = some v ∧ Q v s') E s := by
  have sub : PySem.W.Looks (model prog w) s.heap (isInstance (.ref a) (.type "object")) true := J.type.andThen (PySem.W.looks_subIn hk N.ob)
  have body : wpAny (model prog w) A (call (.builtin "object.__ne__") [.ref a, b]) (fun v s' => ∃ r, v = .bool r ∧ Q (.bool r) s') E s := by
    refine wpAny_call (codeAny_call_builtin PySem.F.cmp_object.ne.plain PySem.F.cmpEntry_ne (PySem.W.check_slot PySem.F.cmpKind_ne PySem.F.cmpSplit_ne sub (PySem.F.cmpArgs_ne _ _) ?_))
    refine objNe (A := A.in1) hk J S hu (wpAny_mono h (fun v s' hv => ?_) fun _ _ z => z)
    obtain ⟨r, rfl, q⟩ := hv
    exact ⟨r, rfl, ⟨!r, rfl, q⟩⟩
  unfold tryCompare callSpecialIfBound? bindSpecialIfBound?
  have fin : wpAny (model prog w) A (call (.builtin "object.__ne__") ([.ref a] ++ [b]) >>= fun v => pure (some v)) (fun o s' => ∃ v, o = some v ∧ v ≠ .notImplemented ∧ Q v s') E s := by
    refine wpAny_bind (wpAny_mono body (fun v s' hv => ?_) fun _ _ z => z)
    obtain ⟨r, rfl, q⟩ := hv
    exact wpAny_pure ⟨_, rfl, (fun z => nomatch z), q⟩
  have fin2 : wpAny (model prog w) A (callSpecialIfBound? (.ref a) "__ne__" [b]) (fun o s' => ∃ v, o = some v ∧ v ≠ .notImplemented ∧ Q v s') E s := by
    simp only [callSpecialIfBound?, bindSpecialIfBound?]
    refine wpAny_holding (wpAny_bind (wpAny_bind (wpAny_bind (J.type.here ((PySem.W.looks_findIn hk N.at_).here ?_)))))
    simp only [PySem.F.cmp_object.ne.bind]
    refine wpAny_bind (wpAny_askSetting (wpAny_ite ?_))
    split
    · exact wpAny_bind (wpAny_pure (wpAny_pure fin))
    · exact wpAny_tryCatch (wpAny_bind (wpAny_pure (wpAny_pure fin)))
  show wpAny _ _ (tryCompare _ _ _) _ _ _
  unfold tryCompare
  refine wpAny_bind (wpAny_mono fin2 (fun o s' hv => ?_) fun _ _ z => z)
  obtain ⟨v, rfl, hne, q⟩ := hv
  cases v
  case notImplemented => exact absurd rfl hne
  all_goals exact wpAny_pure ⟨_, rfl, q⟩
theorem richNe {A : Around} {E : Value → Shared → Prop} {s : Shared} {K : PySem.W.Frag} {a : Addr} {ox : Obj} {od : Option Obj} {b t : Value} {Q : Value → Shared → Prop} {prog : Program} {w : World}
    (hk : K.In s.heap) (J : PySem.W.InstAt s.heap a ox C od) (S : Spc K C "__eq__" f) (N : NeC K C) (hu : A.units < cLine) (hu1 : A.in1.units < cLine)
    (lt : PySem.W.Looks (model prog w) s.heap (typeOf b) t) (hn : PySem.W.notFirst K C t = true)
    (h : wpAny (model prog w) A.in1 (call (.ref f) [.ref a, b]) (fun v s' => ∃ r, v = .bool r ∧ Q (.bool (!r)) s') E s) :
    wpAny (model prog w) A (richCompare .NotEq (.ref a) b) Q E s := by
  have one := neTry hk J S N hu1 h
  unfold richCompare
  simp only [oneThing_ref]
  refine wpAny_holding (wpAny_bind (wpAny_cRoomFor hu ?_))
  rw [cmpInfo_NotEq]
  dsimp only
  refine wpAny_bind (J.type.here (wpAny_bind (lt.here ?_)))
  split
  · rename_i q
    have e : PySem.W.subIn K t (.ref C) = some false := by
      rcases Bool.or_eq_true_iff.mp hn with e | e
      · rw [beq_iff_eq.mp e] at q
        simp at q
      · exact beq_iff_eq.mp e
    refine wpAny_bind ((PySem.W.looks_subIn hk e).here ?_)
    simp only [Bool.false_eq_true, if_false]
    refine wpAny_bind (wpAny_mono one (fun o s' z => ?_) fun _ _ z => z)
    obtain ⟨v, rfl, q⟩ := z
    exact wpAny_pure q
  · refine wpAny_bind (wpAny_pure ?_)
    simp only [Bool.false_eq_true, if_false]
    refine wpAny_bind (wpAny_mono one (fun o s' z => ?_) fun _ _ z => z)
    obtain ⟨v, rfl, q⟩ := z
    exact wpAny_pure q
/-- what the own == hands back is a bool: Q of the other one -/
theorem op_neOwn (F : FnR X.prog X.w X.K X.mg X.base (L2.CX X.prog X.w) k f sp) (hr : Room (k + 1) X.A) (S : Spc X.K C "__eq__" f) (N : NeC X.K C) :
    OpR X (compareOp .NotEq) (fun x y H Q => ∃ a dx fs t, x = .ref a ∧ H a = some (.ins C dx fs) ∧ Side X.K C H y t ∧ PySem.W.notFirst X.K C t = true ∧
      sp [x, y] H (fun v H' => ∃ r, v = .bl r ∧ Q (.bl (!r)) H') (fun _ _ _ => False)) := by
  intro pins s σ H x y v u Q I rx ry h
  obtain ⟨a, dx, fs, t, rfl, ea, sd, hn, h⟩ := h
  obtain rfl : v = Value.ref a := rx
  obtain ⟨ox, od, Ja⟩ := instAt I ea
  have hr1 : Room k X.A.in1 := hr.in1
  apply richNe (t := t) I.kIn Ja S N hr.units0 hr1.units0 (sd.look (K := X.K) I ry) hn
  refine wpAny_call (codeAny_mono (F X.A.in1 X.stack s H [.ref a, u] [.ref a, y] _ (fun _ _ _ => False) hr1 I.env0.in1 (.cons rfl (.cons ry .nil)) h) fun q s' hq => ?_)
  rcases q with e | fl
  · exact (cxN hq).elim
  · rcases fl with _ | _ | _ | u'
    · exact False.elim hq
    · exact False.elim hq
    · exact False.elim hq
    · obtain ⟨v', H', J', rv, r, ev, q⟩ := I.after hq
      subst ev
      obtain rfl : u' = Value.bool r := rv
      exact ⟨r, rfl, ⟨.bl (!r), H', J', rfl, q⟩⟩
end
end Z

set_option Elab.async false
set_option linter.all false
set_option maxRecDepth 100000
set_option maxHeartbeats 4000000
namespace Z
open PySem PySem.Spec PyProof.Rows L2
section
variable {prog : Program} {w : World} {A : Around} {E : Value → Shared → Prop} {s : Shared}
/-- bool(x), by the truth of x -/
theorem newBool {x : Value} {R : Result → Shared → Prop} (h : wpAny (model prog w) A.in1 (truthy x) (fun b s' => R (.ok (.ret (.bool b))) s') (fun e s' => R (.error e) s') s) :
    wpAny (model prog w) A.in1 (Builtin.«bool.__new__» ⟨[.type "bool", x], []⟩)
      (fun fin s' => match fin with | .done f => R (.ok f) s' | .again c' => c'.quiet = true ∧ codeAny (model prog w) A c' R s') (fun e s' => R (.error e) s') s := by
  have f1 := F.conv_sub_bool
  obtain ⟨hp, g, d, tk, os⟩ := s
  unfold Builtin.«bool.__new__»
  repeat (any_goals (first | assumption | (refine wpAny_bind (m := truthy x) (wpAny_mono h (fun b s' q => ?_) fun _ _ z => z)) | wp_step))
  all_goals first | exact q | exact ⟨_, rfl, q⟩ | skip
theorem callBool {x : Value} {Q : Value → Shared → Prop} (h : wpAny (model prog w) A.in1.in1 (truthy x) (fun b s' => Q (.bool b) s') E s) :
    wpAny (model prog w) A (call (.type "bool") [x]) Q E s := by
  have ft := F.called_bool
  obtain ⟨c, tl, hmro⟩ := ft.mro
  have hmade := ft.made
  have hsub := ft.sub
  have h1 := ft.notType
  have h2 := ft.canCreate
  have hct := F.typeCall_bool_1 x
  apply wpAny_call
  apply codeAny_of_tree
  show wpAny _ _ (callAny (.type "bool") _) _ _ _
  have quiet := Code.quiet_builtin (id := "type.__call__") ⟨[.type "bool", x], []⟩ (by decide +kernel)
  refine wpAny_pure ⟨quiet, ?_⟩
  apply codeAny_builtin F.entry_type_call
  rw [Around.under_plain (weight_type_call_type "bool" [x] []) (units_type_call_type "bool" [x] [])]
  repeat (any_goals (first | assumption | wp_step))
  have body := newBool (A := A.in1) (R := wants (fun o s₁ => s₁.TypeIs o "bool" ∧ Q o s₁) E) (wpAny_mono h (fun b s' q => ⟨rfl, q⟩) fun _ _ z => z)
  refine codeAny_mono (codeAny_call_builtin ft.plain F.entry_bool_new (wpAny_of_eq (F.newCall_bool_1 x) body)) fun r s₁ hr => ?_
  rcases r with e | fl
  · exact hr
  rcases fl with _ | _ | _ | obj
  · exact False.elim hr
  · exact False.elim hr
  · exact False.elim hr
  obtain ⟨hT, hq⟩ := hr
  have hli := ft.init.lookup
  have hbi := ft.init.bind obj
  repeat (any_goals (first | assumption | wp_step))
  have last := object_init_meets (self := obj) (rest := [x]) hli hmade F.newNe_bool prog w A.in1 (wants (fun r s₂ => r = .none ∧ Q obj s₂) E) s₁ ⟨hT, rfl, hq⟩
  refine codeAny_mono (codeAny_call_builtin ft.init.plain F.entry_object_init (ft.init.check _ _ _ _ _ _ _ _ hT (F.args_object_init_2 obj x) last)) fun r₂ s₂ hr₂ => ?_
  rcases r₂ with e | fl
  · exact hr₂
  rcases fl with _ | _ | _ | r
  · exact False.elim hr₂
  · exact False.elim hr₂
  · exact False.elim hr₂
  obtain ⟨rfl, hq⟩ := hr₂
  repeat (any_goals (first | assumption | wp_step))
end
section
variable {X : Cx} {k : Nat} {f C : Addr} {sp : Sp}
/-- bool(x), x an instance with its own __bool__ -/
def rBoolOwn (C : Addr) (sp : Sp) : List V → Hp → VK → Prop := fun xs H Q => ∃ a dx fs, xs = [.ref a] ∧ H a = some (.ins C dx fs) ∧
  sp [.ref a] H (fun v H' => ∃ r, v = .bl r ∧ Q (.bl r) H') (fun _ _ _ => False)
theorem call_boolOwn (F : FnR X.prog X.w X.K X.mg X.base (L2.CX X.prog X.w) k f sp) (hr : Room (k + 2) X.A) (S : Spc X.K C "__bool__" f) :
    CallR X (.type "bool") (rBoolOwn C sp) := by
  intro pins s σ H xs us Q I r h
  obtain ⟨a, dx, fs, rfl, ea, h⟩ := h
  obtain rfl := Vals.ref1 r
  obtain ⟨ox, od, Ja⟩ := instAt I ea
  obtain ⟨m, fr⟩ := I.fr
  have hr1 : Room k X.A.in1.in1 := (hr.in1).in1
  apply callBool
  apply PySem.W.truthy_K fr I.ok.mod.kin Ja S.at_ S.fn
  refine wpAny_call (codeAny_mono (F X.A.in1.in1 X.stack s H [.ref a] [.ref a] _ (fun _ _ _ => False) hr1 I.env0.in1.in1 (.cons rfl .nil) h) fun q s' hq => ?_)
  rcases q with e | fl
  · exact (cxN hq).elim
  rcases fl with _ | _ | _ | u'
  · exact False.elim hq
  · exact False.elim hq
  · exact False.elim hq
  obtain ⟨v', H', J', rv, r, ev, q⟩ := I.after hq
  subst ev
  obtain rfl : u' = Value.bool r := rv
  exact ⟨.bl r, H', J', rfl, q⟩
end
end Z

set_option Elab.async false
set_option linter.all false
set_option maxRecDepth 100000
set_option maxHeartbeats 4000000
/-! readings, one step at a time -/
namespace Z
open PySem PySem.Spec PyProof.Rows L2
section
variable {X : Cx} {K : PySem.W.Frag} {σ σ' : L2.St} {H H1 : Hp} {D : Ends} {t u : TS} {te ta tb tc : TE} {tt tu : TT} {tr : TA} {g : TG} {Q : VK} {QB : Bool → Hp → Prop} {QA : List V → Hp → Prop} {QS : L2.St → Hp → Prop} {v x y : V} {i j : Nat} {A B : Prop}

theorem i_seq (h : t { D with nx := u D } σ H) : tSeq t u D σ H := h
theorem i_next (h : D.nx σ H) : tNext D σ H := h
theorem i_asg (h : te σ H (fun x H1 => g x σ H1 D.nx)) : tAsg te g D σ H := h
theorem i_gname (e : σ.set i (some v) = σ') (h : QS σ' H) : gName i v σ H QS := by
  subst e
  exact h
theorem i_ret (h : te σ H D.rt) : tRet te D σ H := h
theorem i_retN (h : D.rt .non H) : tRetN D σ H := h
theorem i_drop (h : te σ H (fun _ H1 => D.nx σ H1)) : tDrop te D σ H := h
theorem i_ifs (h : tt σ H (fun b H1 => if b = true then t D σ H1 else u D σ H1)) : tIfS tt t u D σ H := h
theorem i_test (h : te σ H (fun x H1 => ∃ k, x = .bl k ∧ QB k H1)) : tTest te σ H QB := h
theorem i_B (h : te σ H (fun x H1 => ∃ k, x = .bl k ∧ QB k H1)) : tB te σ H QB := h
theorem i_bl {b : Bool} (h : QB b H) : ∃ k, V.bl b = .bl k ∧ QB k H := ⟨b, rfl, h⟩
theorem i_bl' {b : Bool} {P : Bool → Prop} (h : P b) : ∃ k, V.bl b = .bl k ∧ P k := ⟨b, rfl, h⟩
theorem i_and (h : tt σ H (fun c H1 => if c = true then tu σ H1 QB else QB false H1)) : tAnd tt tu σ H QB := h
theorem i_or (h : tt σ H (fun c H1 => if c = true then QB true H1 else tu σ H1 QB)) : tOr tt tu σ H QB := h
theorem i_not (h : tt σ H (fun c H1 => QB (!c) H1)) : tNot tt σ H QB := h
theorem i_andV (h : ta σ H (fun x H1 => ∃ c, x = .bl c ∧ if c = true then tb σ H1 Q else Q (.bl false) H1)) : tAndV ta tb σ H Q := h
theorem i_orV (h : ta σ H (fun x H1 => ∃ c, x = .bl c ∧ if c = true then Q (.bl true) H1 else tb σ H1 Q)) : tOrV ta tb σ H Q := h
theorem i_notV (h : ta σ H (fun x H1 => ∃ c, x = .bl c ∧ Q (.bl (!c)) H1)) : tNotV ta σ H Q := h
theorem i_ifx (h : tt σ H (fun c H1 => if c = true then ta σ H1 Q else tb σ H1 Q)) : tIf tt ta tb σ H Q := h
theorem i_dec {p : Prop} [Decidable p] (h1 : p → A) (h2 : ¬p → B) : if decide p = true then A else B := by
  by_cases hp : p
  · rw [if_pos (decide_eq_true hp)]
    exact h1 hp
  · rw [if_neg (by simpa using hp)]
    exact h2 hp
theorem i_ndec {p : Prop} [Decidable p] (h1 : ¬p → A) (h2 : p → B) : if (!decide p) = true then A else B := by
  by_cases hp : p
  · rw [if_neg (by simpa using hp)]
    exact h2 hp
  · rw [if_pos (by simpa using hp)]
    exact h1 hp
theorem i_bool {b : Bool} (h1 : b = true → A) (h2 : b = false → B) : if b = true then A else B := by
  cases b
  · exact h2 rfl
  · exact h1 rfl
theorem i_tt (h : A) : if true = true then A else B := h
theorem i_ff (h : B) : if false = true then A else B := h
theorem i_nt (h : B) : if (!true) = true then A else B := h
theorem i_nf (h : A) : if (!false) = true then A else B := h
/-! values -/
theorem i_var (e : σ[i]? = some (some v)) (h : Q v H) : tVar i σ H Q := ⟨v, e, h⟩
theorem i_c (h : Q v H) : tC v σ H Q := h
theorem i_op {r : R2} (h : ta σ H (fun x H1 => tb σ H1 (fun y H2 => r x y H2 Q))) : tOp r ta tb σ H Q := h
theorem i_un {r : V → Hp → VK → Prop} (h : ta σ H (fun x H1 => r x H1 Q)) : tUn r ta σ H Q := h
theorem i_cons (h : te σ H (fun x H1 => tr σ H1 (fun xs H2 => QA (x :: xs) H2))) : tCons te tr σ H QA := h
theorem i_nil (h : QA [] H) : tNil σ H QA := h
theorem i_cb {r : List V → Hp → VK → Prop} (h : tr σ H (fun vs H1 => r vs H1 Q)) : tCB r tr σ H Q := h
theorem i_call {sp : Sp} {E : L2.St → XK} (h : tr σ H (fun vs H1 => sp vs H1 Q (E σ))) : tCallS sp E tr σ H Q := h
theorem sz_small {n : Nat} (h : n ≤ 100000) : n ≤ sizeLine := Nat.le_trans h (by decide)
/-- a new list, a new tuple: from here on the heap is another letter -/
theorem i_lst (h : tr σ H (fun xs H1 => xs.length ≤ 100000 ∧ ∀ p H2, H1 p = none → Same H1 H2 → H2 p = some (.lst xs) → (∀ b, b ≠ p → H2 b = H1 b) → Q (.ref p) H2))
    (mono : ∀ Q Q' : List V → Hp → Prop, (∀ xs H, Q xs H → Q' xs H) → tr σ H Q → tr σ H Q') : tLst tr σ H Q := by
  refine mono _ _ (fun xs H1 q => ?_) h
  exact ⟨sz_small q.1, fun p hp => q.2 p _ hp (fun b o e => by rw [upd_ne (ne_of_none e hp)]; exact e) upd_same (fun b hb => upd_ne hb)⟩
/-- what comes behind the items of a display -/
def rLst (xs : List V) (H1 : Hp) (Q : VK) : Prop := xs.length ≤ sizeLine ∧ ∀ p, H1 p = none → Q (.ref p) (upd H1 p (.lst xs))
def rTup (xs : List V) (H1 : Hp) (Q : VK) : Prop := xs.length ≤ sizeLine ∧ ∀ p, H1 p = none → Q (.ref p) (upd H1 p (.tup xs))
theorem i_lst0 (h : tr σ H (fun xs H1 => rLst xs H1 Q)) : tLst tr σ H Q := h
theorem i_tup0 (h : tr σ H (fun xs H1 => rTup xs H1 Q)) : tTup tr σ H Q := h
theorem i_lst1 {xs : List V} (hl : xs.length ≤ 100000) (h : ∀ p H2, H p = none → Same H H2 → H2 p = some (.lst xs) → (∀ b, b ≠ p → H2 b = H b) → Q (.ref p) H2) : rLst xs H Q :=
  ⟨sz_small hl, fun p hp => h p _ hp (fun b o e => by rw [upd_ne (ne_of_none e hp)]; exact e) upd_same (fun b hb => upd_ne hb)⟩
theorem i_tup1 {xs : List V} (hl : xs.length ≤ 100000) (h : ∀ p H2, H p = none → Same H H2 → H2 p = some (.tup xs) → (∀ b, b ≠ p → H2 b = H b) → Q (.ref p) H2) : rTup xs H Q :=
  ⟨sz_small hl, fun p hp => h p _ hp (fun b o e => by rw [upd_ne (ne_of_none e hp)]; exact e) upd_same (fun b hb => upd_ne hb)⟩
/-! attributes -/
def rFld (K : PySem.W.Frag) (f : Str) (x : V) (H1 : Hp) (Q : VK) : Prop := ∃ a C dx fs v, x = .ref a ∧ H1 a = some (.ins C dx fs) ∧ Cls K C ∧ NoAttr K C f ∧ fs.lookup f = some v ∧ Q v H1
theorem i_fld0 {f : Str} (h : ta σ H (fun x H1 => rFld K f x H1 Q)) : tFld K ta f σ H Q := h
theorem i_fld1 {f : Str} {a C dx : Addr} {fs : List (Str × V)} (e : H a = some (.ins C dx fs)) (c : Cls K C) (n : NoAttr K C f) (l : fs.lookup f = some v) (h : Q v H) : rFld K f (.ref a) H Q := ⟨a, C, dx, fs, v, rfl, e, c, n, l, h⟩
def rPut (K : PySem.W.Frag) (f : Str) (y x : V) (H2 : Hp) (Q : Hp → Prop) : Prop := ∃ a C dx fs, x = .ref a ∧ H2 a = some (.ins C dx fs) ∧ Cls K C ∧ NoAttr K C f ∧ fs.length < 1000 ∧ Q (upd H2 a (.ins C dx (putF f y fs)))
theorem i_put0 {f : Str} {tv : TE} (h : tv σ H (fun y H1 => ta σ H1 (fun x H2 => rPut K f y x H2 (fun H3 => D.nx σ H3)))) : sFld K ta tv f D σ H := h
theorem i_put1 {f : Str} {a C dx : Addr} {fs gs : List (Str × V)} {P : Hp → Prop} (e : H a = some (.ins C dx fs)) (c : Cls K C) (n : NoAttr K C f) (l : fs.length < 100) (w : putF f y fs = gs)
    (h : ∀ H2, H2 a = some (.ins C dx gs) → (∀ b, b ≠ a → H2 b = H b) → P H2) : rPut K f y (.ref a) H P :=
  ⟨a, C, dx, fs, rfl, e, c, n, by omega, by rw [w]; exact h _ upd_same (fun b hb => upd_ne hb)⟩
/-! methods, new instances -/
def rMeth (C : Addr) (m : Str) (x : V) (H1 : Hp) (P : Prop) : Prop := ∃ a dx fs, x = .ref a ∧ H1 a = some (.ins C dx fs) ∧ fs.lookup m = none ∧ P
theorem i_meth {C : Addr} {m : Str} {sp : Sp} {E : L2.St → XK} (h : ta σ H (fun x H1 => rMeth C m x H1 (tr σ H1 (fun vs H2 => sp (x :: vs) H2 Q (E σ))))) : tMethS C m sp E ta tr σ H Q := h
theorem i_meth1 {C a dx : Addr} {m : Str} {fs : List (Str × V)} {P : Prop} (e : H a = some (.ins C dx fs)) (l : fs.lookup m = none) (h : P) : rMeth C m (.ref a) H P := ⟨a, dx, fs, rfl, e, l, h⟩
def rNew (C : Addr) (sp : Sp) (vs : List V) (H1 : Hp) (Q : VK) (E : XK) : Prop := ∀ x dx, H1 x = Option.none → H1 dx = Option.none → dx ≠ x →
  sp (V.ref x :: vs) (upd (upd H1 dx (.own x)) x (.ins C dx [])) (fun v H2 => v = .non ∧ Q (.ref x) H2) (fun cls d H2 => E cls d H2)
theorem i_make {C : Addr} {sp : Sp} {E : L2.St → XK} (h : tr σ H (fun vs H1 => rNew C sp vs H1 Q (E σ))) : tMakeS C sp E tr σ H Q := h
/-! ints -/
theorem i_rI0 {f : Int → Int → V} {a b : Int} (h : Q (f a b) H) : rI0 f (.int a) (.int b) H Q := ⟨a, b, rfl, rfl, h⟩
theorem i_rI {C : Int → Int → Prop} {f : Int → Int → V} {a b : Int} (c : C a b) (h : Q (f a b) H) : rI C f (.int a) (.int b) H Q := ⟨a, b, rfl, rfl, c, h⟩
theorem i_rU {f : Int → V} {a : Int} (h : Q (f a) H) : rU f (.int a) H Q := ⟨a, rfl, h⟩
theorem i_eqI {a b : Int} (h : Q (.bl (decide (a = b))) H) : rEq (.int a) (.int b) H Q := ⟨rfl, by
  have e : decide (V.int a = V.int b) = decide (a = b) := by by_cases h : a = b <;> simp [h]
  rw [e]
  exact h⟩
theorem i_neI {a b : Int} (h : Q (.bl (!decide (a = b))) H) : rNe (.int a) (.int b) H Q := ⟨rfl, by
  have e : decide (V.int a = V.int b) = decide (a = b) := by by_cases h : a = b <;> simp [h]
  rw [e]
  exact h⟩
theorem i_eqB {a b : Bool} (h : Q (.bl (a == b)) H) : rEq (.bl a) (.bl b) H Q := ⟨rfl, by
  have e : decide (V.bl a = V.bl b) = (a == b) := by cases a <;> cases b <;> rfl
  rw [e]
  exact h⟩
theorem i_neB {a b : Bool} (h : Q (.bl (a != b)) H) : rNe (.bl a) (.bl b) H Q := ⟨rfl, by
  have e : (!decide (V.bl a = V.bl b)) = (a != b) := by cases a <;> cases b <;> rfl
  rw [e]
  exact h⟩
theorem i_eqS {a b : Str} (h : Q (.bl (decide (a = b))) H) : rEq (.str a) (.str b) H Q := ⟨rfl, by
  have e : decide (V.str a = V.str b) = decide (a = b) := by by_cases h : a = b <;> simp [h]
  rw [e]
  exact h⟩
theorem i_neS {a b : Str} (h : Q (.bl (!decide (a = b))) H) : rNe (.str a) (.str b) H Q := ⟨rfl, by
  have e : decide (V.str a = V.str b) = decide (a = b) := by by_cases h : a = b <;> simp [h]
  rw [e]
  exact h⟩
/-- // by a divisor of either sign -/
def CDivZ (_ j : Int) : Prop := j ≠ 0 ∧ j.natAbs.log2 < 9000
theorem op_fdivZ : OpR X (binaryOp .FloorDiv) (rI CDivZ fun i j => .int (i.fdiv j)) := opI fun i j _ _ _ _ _ hc q => floordiv_int hc.1 q (.inl (PyProof.noPylong_of_log2 hc.2))
theorem cdivZ {i j : Int} {n : Nat} (h : j ≠ 0) (s : ZR.Sz n j) (h0 : 0 < n := by decide) (h9 : n ≤ 9000 := by decide) : CDivZ i j := ⟨h, Nat.lt_of_lt_of_le (PySem.Flt.log2_lt_of h0 s) h9⟩
theorem cmulW {i j : Int} {n m : Nat} (s : ZR.Sz n i) (s' : ZR.Sz m j) (h0 : 0 < n := by decide) (h1 : 0 < m := by decide) (h : n + m ≤ 1000000 := by decide) : CMulW i j := wide_mul s s' h0 h1 h
/-! lists and tuples by place -/
theorem i_ixL {p : Addr} {xs : List V} {k : Nat} (s : SqL K H p xs) (e : xs[k]? = some v) (h : Q v H) : rIxL K (.ref p) (.int (k : Nat)) H Q := ⟨p, xs, _, v, rfl, rfl, s, atI_nat e, h⟩
theorem i_gcd {a b : Int} (h : Q (.int ((Nat.gcd a.natAbs b.natAbs : Nat) : Int)) H) : rGcd [.int a, .int b] H Q := ⟨a, b, rfl, h⟩
end
end Z

set_option Elab.async false
set_option linter.all false
set_option maxRecDepth 100000
set_option maxHeartbeats 4000000
/-! what is known of the text's defs, in short -/
namespace Z
open PySem PySem.Spec PyProof.Rows L2
section
variable (P : Program) (w : World) (K : PySem.W.Frag) (mg : Str → Option Value) (base : Heap)
/-- a def of the module -/
def Cal (x : Str) (k : Nat) (sp : Sp) : Prop := ∃ f, mg x = some (.ref f) ∧ PySem.W.keepIn K (.ref f) = true ∧ FnR P w K mg base (L2.CX P w) k f sp
/-- a method of the class at C -/
def CalM (C : Addr) (m : Str) (k : Nat) (sp : Sp) : Prop := ∃ f, Meth K C m f ∧ FnR P w K mg base (L2.CX P w) k f sp
/-- a class and its __init__ -/
def CalI (x : Str) (C : Addr) (k : Nat) (sp : Sp) : Prop := mg x = some (.ref C) ∧ ∃ f, Mk K C f ∧ FnR P w K mg base (L2.CX P w) k f sp
/-- an operator's def -/
def CalO (C : Addr) (n : Str) (k : Nat) (sp : Sp) : Prop := ∃ f, Spc K C n f ∧ PySem.W.selfFirst K C = true ∧ FnR P w K mg base (L2.CX P w) k f sp
/-- a classmethod -/
def CalK (C : Addr) (m : Str) (k : Nat) (sp : Sp) : Prop := ∃ mc p g, ClX.CRead K C mc ∧ ClX.CMet K C mc m p g ∧ FnR P w K mg base (L2.CX P w) k g sp
/-- an error class with its own __init__ -/
def CalX (x : Str) (C : Addr) (k : Nat) (ps : List Str) (sp : Sp) : Prop := mg x = some (.ref C) ∧ OexC K C ∧ ∃ fI fd, PySem.W.findIn K (.ref C) "__init__" = some (some (.ref fI)) ∧
  PySem.W.typeIn K (.ref fI) = some (.type "function") ∧ FnOk P w K mg base (L2.CX P w) k fI fd ps sp ∧ Binds K fd ps []
/-- the errors' common class, of which __init__ is called by name -/
def CalT (x : Str) : Prop := ∃ T mc, mg x = some (.ref T) ∧ ClX.CRead K T mc ∧ PySem.W.findCls K (.ref T) mc "__init__" = some (.val (.builtin "ValueError.__init__"))
end
section
variable {X : Cx} {k j : Nat} {C : Addr} {sp : Sp} {E : L2.St → XK} {x m : Str} {p pos apos : Pos} {e o : Expr} {es : List Expr} {ta te : TE} {t : TA}
theorem z_callC (c : Cal X.prog X.w X.K X.mg X.base x k sp) (hr : Room j X.A) (hx : ∀ σ, PassesAt (L2.CX X.prog X.w) X σ (E σ)) (ha : PA X (e :: es) t) (hj : k ≤ j := by decide) (hg : Gl X x := by rfl)
    (hdb : (x == ("__debug__" : Str)) = false := by decide) (he : starEach (e :: es) X.env = (false, eval e X.env) :: starEach es X.env := by rfl)
    (hpl : (backTo pos (starEach es X.env)).any (·.1) = false := by rfl) : PE X (.Call (.Name x p) (e :: es) [] pos) (tCallS sp E t) := by
  obtain ⟨f, hm, hk, F⟩ := c
  exact z_call F (hr.mono hj) hm hk hx ha hg hdb he hpl
theorem z_call0C (c : Cal X.prog X.w X.K X.mg X.base x k sp) (hr : Room j X.A) (hx : ∀ σ, PassesAt (L2.CX X.prog X.w) X σ (E σ)) (hj : k ≤ j := by decide) (hg : Gl X x := by rfl)
    (hdb : (x == ("__debug__" : Str)) = false := by decide) : PE X (.Call (.Name x p) [] [] pos) (tCallS sp E tNil) := by
  obtain ⟨f, hm, hk, F⟩ := c
  exact z_call0 F (hr.mono hj) hm hk hx hg hdb
theorem z_makeC (c : CalI X.prog X.w X.K X.mg X.base x C k sp) (hr : Room j X.A) (hx : ∀ σ, PassesAt (L2.CX X.prog X.w) X σ (E σ)) (ha : PA X (e :: es) t) (hj : k + 1 ≤ j := by decide) (hg : Gl X x := by rfl)
    (hdb : (x == ("__debug__" : Str)) = false := by decide) (he : starEach (e :: es) X.env = (false, eval e X.env) :: starEach es X.env := by rfl)
    (hpl : (backTo pos (starEach es X.env)).any (·.1) = false := by rfl) : PE X (.Call (.Name x p) (e :: es) [] pos) (tMakeS C sp E t) := by
  obtain ⟨hm, f, M, F⟩ := c
  exact z_make M F (hr.mono hj) hm hx ha hg hdb he hpl
/-- cls(e, ..), cls a local name that holds the class -/
def tMakeL (i : Nat) (C : Addr) (sp : Sp) (E : L2.St → XK) (t : TA) : TE := fun σ H Q => σ[i]? = some (some (.ref C)) ∧ tMakeS C sp E t σ H Q
theorem z_makeL {i : Nat} {y : Str} (c : CalI X.prog X.w X.K X.mg X.base y C k sp) (hr : Room j X.A) (hx : ∀ σ, PassesAt (L2.CX X.prog X.w) X σ (E σ)) (ha : PA X (e :: es) t) (hj : k + 1 ≤ j := by decide)
    (hN : X.N[i]? = some x := by rfl) (hv : Vis X.env.scope x := by first | exact Or.inl rfl | exact Or.inr (Or.inl rfl) | exact Or.inr (Or.inr rfl))
    (hdb : (x == ("__debug__" : Str)) = false := by decide) (hcd : (x == ("__classdict__" : Str)) = false := by decide)
    (he : starEach (e :: es) X.env = (false, eval e X.env) :: starEach es X.env := by rfl)
    (hpl : (backTo pos (starEach es X.env)).any (·.1) = false := by rfl) : PE X (.Call (.Name x p) (e :: es) [] pos) (tMakeL i C sp E t) := by
  obtain ⟨hm, f, M, F⟩ := c
  constructor
  intro pins s σ H Q I h
  obtain ⟨hs, h⟩ := h
  apply wpAny_Call_Name_kw
  refine thn ((pe_var (pos := p) (i := i) hN hv hdb hcd).run pins s σ H (fun v H1 => v = .ref C ∧ H1 = H) I ⟨.ref C, hs, rfl, rfl⟩) fun u s1 hh => ?_
  obtain ⟨v, H1, I1, r1, ev, eH⟩ := hh
  subst ev
  rw [eH] at I1
  obtain rfl : u = Value.ref C := r1
  apply PySem.W.callWith_K (h₀ := X.base) I.ok.mod.kin M.kp _ he hpl
  refine thn (ha.run pos pins s1 σ H _ I1 h) fun us s2 hh => ?_
  obtain ⟨vs, H2, I2, r, q⟩ := hh
  exact ⟨I2.kIn, runMake M F (hr.mono hj) hx I2 r q⟩
theorem z_methC {pl : Sem Bool} (he : PE X o ta) (c : Cls X.K C) (d : CalM X.prog X.w X.K X.mg X.base C m k sp) (hr : Room j X.A) (hx : ∀ σ, PassesAt (L2.CX X.prog X.w) X σ (E σ)) (ha : PA X (e :: es) t) (hj : k ≤ j := by decide)
    (hst : starEach (e :: es) X.env = (false, eval e X.env) :: starEach es X.env := by rfl)
    (hpl : (backTo pos (starEach es X.env)).any (·.1) = false := by rfl)
    (ht : eval (.Call (.Attribute o m apos) (e :: es) [] pos) X.env = (do
      let ov ← eval o X.env
      standAt apos.atName
      let (f, first) ← holding [ov] (getMethod ov m pl)
      callWith pos f first (backTo pos (starEach (e :: es) X.env)) (backToKw pos (keywordEach [] X.env))) := by rfl) :
    PE X (.Call (.Attribute o m apos) (e :: es) [] pos) (tMethS C m sp E ta t) := by
  obtain ⟨f, hm, F⟩ := d
  exact z_meth he c hm F (hr.mono hj) hx ha hst hpl ht
theorem z_meth0C {pl : Sem Bool} (he : PE X o ta) (c : Cls X.K C) (d : CalM X.prog X.w X.K X.mg X.base C m k sp) (hr : Room j X.A) (hx : ∀ σ, PassesAt (L2.CX X.prog X.w) X σ (E σ)) (hj : k ≤ j := by decide)
    (ht : eval (.Call (.Attribute o m apos) [] [] pos) X.env = (do
      let ov ← eval o X.env
      standAt apos.atName
      let (f, first) ← holding [ov] (getMethod ov m pl)
      callWith pos f first (backTo pos (starEach [] X.env)) (backToKw pos (keywordEach [] X.env))) := by rfl) :
    PE X (.Call (.Attribute o m apos) [] [] pos) (tMethS C m sp E ta tNil) := by
  obtain ⟨f, hm, F⟩ := d
  exact z_meth0 he c hm F (hr.mono hj) hx ht
/-- C.m(e, ..), m a classmethod -/
def tCMethS (C : Addr) (sp : Sp) (E : L2.St → XK) (ta : TE) (t : TA) : TE := fun σ H Q => ta σ H fun x H1 => x = .ref C ∧ t σ H1 fun vs H2 => sp (.ref C :: vs) H2 Q (E σ)
theorem z_cmethC {pl : Sem Bool} (ho : PE X o ta) (d : CalK X.prog X.w X.K X.mg X.base C m k sp) (hr : Room j X.A) (hx : ∀ σ, PassesAt (L2.CX X.prog X.w) X σ (E σ)) (ha : PA X (e :: es) t) (hj : k ≤ j := by decide)
    (hst : starEach (e :: es) X.env = (false, eval e X.env) :: starEach es X.env := by rfl)
    (hpl : (backTo pos (starEach es X.env)).any (·.1) = false := by rfl)
    (ht : eval (.Call (.Attribute o m apos) (e :: es) [] pos) X.env = (do
      let ov ← eval o X.env
      standAt apos.atName
      let (f, first) ← holding [ov] (getMethod ov m pl)
      callWith pos f first (backTo pos (starEach (e :: es) X.env)) (backToKw pos (keywordEach [] X.env))) := by rfl) :
    PE X (.Call (.Attribute o m apos) (e :: es) [] pos) (tCMethS C sp E ta t) := by
  obtain ⟨mc, pp, g, r, c, F⟩ := d
  constructor
  intro pins s σ H Q I h
  refine PySem.W.methodCall_KW (pl := pl) (thn (ho.run pins s σ H _ I h) fun u s1 hh => ?_) ht
  obtain ⟨x, H1, I1, rx, ex, q⟩ := hh
  subst ex
  obtain rfl : u = Value.ref C := rx
  apply ClX.getmethcm_ok I1 r c
  intro s2 I2
  apply ClX.callwith_cm I2 (ClX.base_none I1 (Nat.le_refl _)) c.fi _ hst hpl
  refine thn (ha.run pos _ s2 σ H1 _ I2 q) fun us s3 hh => ?_
  obtain ⟨vs, H2, I3, rv, q2⟩ := hh
  refine ⟨⟨ClX.pin_at I3, I3.kIn⟩, ?_⟩
  have z : wpAny (model X.prog X.w) X.A (call (.ref s1.heap.objs.size) us) (EP X ((s1.heap.objs.size, PySem.W.methodObj (.ref g) (.ref C)) :: pins) σ Q) X.xe s3 := by
    refine wpAny_call (PySem.W.method_call (ClX.pin_at I3) ?_)
    refine codeAny_mono (F X.A X.stack s3 H2 (.ref C :: us) (.ref C :: vs) Q (E σ) (hr.mono hj) I3.env0 (.cons rfl rv) q2) fun a s' hq => ?_
    rcases a with er | fl
    · exact hx σ _ H2 s3 er s' I3 hq
    · rcases fl with _ | _ | _ | v
      · exact False.elim hq
      · exact False.elim hq
      · exact False.elim hq
      · exact I3.after hq
  exact thn z fun _ _ y => ClX.unpinE y
/-! operators -/
theorem z_op {op : Operator} {nm : Str} (c : CalO X.prog X.w X.K X.mg X.base C nm k sp) (hr : Room j X.A) (hj : k ≤ j := by decide) (hn : nm = PySem.dunder op.info.2 := by rfl) : OpR X (binaryOp op) (rOwn C sp) := by
  obtain ⟨f, S, sf, F⟩ := c
  exact op_own F (hr.mono hj) sf (by rw [← hn]; exact S)
theorem z_neg (c : CalO X.prog X.w X.K X.mg X.base C "__neg__" k sp) (hr : Room j X.A) (hj : k ≤ j := by decide) : UnR X (unaryOp .USub) (rOwn1 C sp) := by
  obtain ⟨f, S, sf, F⟩ := c
  exact un_own F (hr.mono hj) S
theorem z_eqO (c : CalO X.prog X.w X.K X.mg X.base C "__eq__" k sp) (hr : Room j X.A) (hj : k ≤ j := by decide) : OpR X (compareOp .Eq) (rOwnC X.K C sp) := by
  obtain ⟨f, S, sf, F⟩ := c
  exact op_eqOwn F (hr.mono hj) S
def rOwnN (K : PySem.W.Frag) (C : Addr) (sp : Sp) : R2 := fun x y H Q => ∃ a dx fs t, x = .ref a ∧ H a = some (.ins C dx fs) ∧ Side K C H y t ∧ PySem.W.notFirst K C t = true ∧
      sp [x, y] H (fun v H' => ∃ r, v = .bl r ∧ Q (.bl (!r)) H') (fun _ _ _ => False)
theorem z_neO (c : CalO X.prog X.w X.K X.mg X.base C "__eq__" k sp) (n : NeC X.K C) (hr : Room j X.A) (hj : k + 1 ≤ j := by decide) : OpR X (compareOp .NotEq) (rOwnN X.K C sp) := by
  obtain ⟨f, S, sf, F⟩ := c
  exact op_neOwn F (hr.mono hj) S n
theorem z_bool (c : CalO X.prog X.w X.K X.mg X.base C "__bool__" k sp) (hr : Room j X.A) (hj : k + 2 ≤ j := by decide) : CallR X (.type "bool") (rBoolOwn C sp) := by
  obtain ⟨f, S, sf, F⟩ := c
  exact call_boolOwn F (hr.mono hj) S
/-! errors -/
theorem z_mkX {ps : List Str} (c : CalX X.prog X.w X.K X.mg X.base x C k ps sp) (hr : Room j X.A) (ha : PA X (e :: es) t) (hj : k + 1 ≤ j := by decide) (hg : Gl X x := by rfl)
    (hdb : (x == ("__debug__" : Str)) = false := by decide) (he : starEach (e :: es) X.env = (false, eval e X.env) :: starEach es X.env := by rfl)
    (hpl : (backTo pos (starEach es X.env)).any (·.1) = false := by rfl) : PMk X (.Call (.Name x p) (e :: es) [] pos) (tMkO C sp [] t) := by
  obtain ⟨hm, T, fI, fd, iC, tI, F, b⟩ := c
  exact pmk_oex T iC tI F (hr.mono hj) b .nil passL hg hm ha hdb he hpl
/-- ThrowError.__init__(self, ..) -/
theorem z_tinit {p1 p2 : Pos} {pl : Sem Bool} (hg : Gl X x) (c : CalT X.K X.mg x) (ha : PA X (e :: es) t)
    (hc : eval (.Call (.Attribute (.Name x p1) "__init__" p2) (e :: es) [] pos) X.env = (do
      let ov ← eval (.Name x p1) X.env
      standAt p2.atName
      let (f, first) ← holding [ov] (getMethod ov "__init__" pl)
      callWith pos f first (backTo pos (starEach (e :: es) X.env)) (backToKw pos (keywordEach [] X.env))) := by rfl)
    (hdb : (x == ("__debug__" : Str)) = false := by decide) (he : starEach (e :: es) X.env = (false, eval e X.env) :: starEach es X.env := by rfl)
    (hpl : (backTo pos (starEach es X.env)).any (·.1) = false := by rfl) :
    PE X (.Call (.Attribute (.Name x p1) "__init__" p2) (e :: es) [] pos) (tVeI X.K t) := by
  obtain ⟨T, mc, hm, r, vV⟩ := c
  constructor
  intro pins s σ H Q I h
  refine PySem.W.methodCall_KW (ld_glob I hg hm ?_ hdb) hc
  apply PySem.W.method_cls I.kIn r.ga
  apply PySem.W.cls_value I.kIn r.rd vV (by decide +kernel)
  show wpAny _ _ (callWith pos (Value.builtin "ValueError.__init__") [] (backTo pos (starEach (e :: es) X.env)) []) _ _ _
  refine PyProof.Rows.callWith_method1 (thn (ha.run pos pins _ σ H _ (I.tok _) h) fun us s1 hh => ?_) he hpl
  obtain ⟨vs, H1, I1, r1, a, C, ws, ev, hl, T', ea, q⟩ := hh
  subst ev
  cases r1 with
  | @cons _ u0 _ ur ra rw' =>
    obtain rfl : u0 = Value.ref a := ra
    have hlen : ur.length ≤ sizeLine := by
      rw [← Paired.length rw', sizeLine_eq]
      omega
    exact oinit_ok T' I1 ea hlen fun s' J => ⟨.non, H1, J, rfl, q⟩
end
/-! a def by its body -/
section
variable {P : Program} {w : World} {K : PySem.W.Frag} {mg : Str → Option Value} {base : Heap}
theorem fnOk_mk {x qual : Str} {st : Stmt} {f : Addr} {fd : FuncData} {N ps : List Str} {k : Nat} {sp : Sp} (F : L2.Fun K x qual st f fd) (S : FnScope N ps (defScope st)) (len : ∀ vs H Q E, sp vs H Q E → vs.length = ps.length)
    (hbody : ∀ (cdv : Value) (A : Around) (outer : List Env) (s : Shared) (H : Hp) (vs : List V) (Q : VK) (E : XK), Room k (A.deeper (envOfC qual (defScope st) s.heap.objs.size f cdv)) → sp vs H Q E →
      ∃ t, PSs (cxOf (L2.CX P w) P w K mg base N qual (defScope st) f cdv A outer s H E) (defBody st) t ∧ t { nx := fun _ H' => Q .non H', rt := Q } (start N vs) H) : FnOk P w K mg base (L2.CX P w) (k + 1) f fd ps sp :=
  F.okX S len hbody
theorem fnR_of {f : Addr} {fd : FuncData} {ps : List Str} {k : Nat} {sp : Sp} (F : FnOk P w K mg base (L2.CX P w) k f fd ps sp) (b : Binds K fd ps []) : FnR P w K mg base (L2.CX P w) k f sp := by
  have h := F.raw b .nil
  refine h.imp fun vs H Q E q => ?_
  rw [List.append_nil]
  exact q
end
end Z

set_option Elab.async false
set_option linter.all false
set_option maxRecDepth 100000
set_option maxHeartbeats 4000000
/-! in, not in over a list, by an own == -/
namespace Z
open PySem PySem.Spec PyProof.Rows L2
section
open PySem.SeqAt AutoSeq1 MeetsSeq MeetsSeq2 MeetsSeq3 SeqRoads2
variable {prog : Program} {w : World} {A : Around} {R : Result → Shared → Prop}
/-- turn i: the list stands, and == of its i-th item and x says r -/
def LookI (prog : Program) (w : World) (A : Around) (R : Result → Shared → Prop) (l : Addr) (x : Value) (N : Nat) (I : Nat → Shared → Prop) : Prop :=
  ∀ i s, I i s → ∃ (its : Array Value) (n : Nat), s.heap.get? l = some { cls := .type "list", data := .seq its n } ∧ its.size = N ∧
    ∀ h1 : i < its.size, wpAny (model prog w) A.in1 (eqBool its[i] x) (fun r s' => if r = true then R (.ok (.ret (.bool true))) s' else I (i + 1) s') (fun e s' => R (.error e) s') s
theorem lookLoop (l : Addr) (x : Value) (N : Nat) (I : Nat → Shared → Prop) (hl : LookI prog w A R l x N I)
    (fin : ∀ s, I N s → R (.ok (.ret (.bool false))) s) (k : Nat) : ∀ i : Nat, N - i = k → i ≤ N → ∀ s, I i s →
      wpAny (model prog w) A.in1 (Builtin.«list.__contains__.loop» ⟨[.ref l, x, rawInt i], []⟩) (GQ.FinOf prog w A R) (fun e s' => R (.error e) s') s := by
  induction k with
  | zero =>
    intro i hk hi s h
    obtain ⟨its, n, e1, e2, _⟩ := hl _ _ h
    have hN : i = N := by omega
    have last : R (.ok (.ret (.bool false))) s := fin s (hN ▸ h)
    obtain ⟨hp, g, d, tk, os⟩ := s
    wp_walk using wpAny_loadPart' e1
    have out : its[((i : Nat) : Int).toNat]? = none := by simp; omega
    rw [out]
    wp_walk
    exact last
  | succ k ih =>
    intro i hk hi s h
    obtain ⟨its, n, e1, e2, turn⟩ := hl _ _ h
    have lt : i < its.size := by omega
    have one := turn lt
    obtain ⟨hp, g, d, tk, os⟩ := s
    wp_walk using wpAny_loadPart' e1
    have at_ : its[((i : Nat) : Int).toNat]? = some its[i] := by simp [lt]
    have nx : ((i : Int) + 1) = ((i + 1 : Nat) : Int) := by omega
    rw [at_]
    refine wpAny_bind (wpAny_mono one (fun r s2 q => ?_) fun _ _ z => z)
    cases r with
    | true =>
      rw [if_pos rfl] at q
      wp_walk
      exact q
    | false =>
      rw [if_neg Bool.false_ne_true] at q
      have rec_ := ih (i + 1) (by omega) (by omega) s2 q
      obtain ⟨hp2, g2, d2, tk2, os2⟩ := s2
      wp_walk
      rw [nx]
      refine ⟨plainId_quiet plain_contains_loop _, codeAny_builtin entry_contains_loop ?_⟩
      rw [Around.under_plainId plain_contains_loop _]
      exact rec_
theorem lookList {E : Value → Shared → Prop} {s : Shared} {Q : Value → Shared → Prop} (l : Addr) (x : Value) (N : Nat) (I : Nat → Shared → Prop) (hl : LookI prog w A (wants Q E) l x N I)
    (fin : ∀ s, I N s → Q (.bool false) s) (h : I 0 s) : wpAny (model prog w) A (call (.builtin "list.__contains__") [.ref l, x]) Q E s := by
  obtain ⟨its, n, e1, e2, _⟩ := hl _ _ h
  refine GQ.call_here F.slot_list_contains ⟨_, e1, rfl⟩ F.entry_list_contains (F.args_list_contains_2 _ _) ?_
  have go := lookLoop (A := A) (R := wants Q E) l x N I hl (fun s q => fin s q) _ 0 rfl (Nat.zero_le _) s h
  obtain ⟨hp, g, d, tk, os⟩ := s
  wp_walk using wpAny_loadPart' e1
  refine ⟨plainId_quiet plain_contains_loop _, codeAny_builtin entry_contains_loop ?_⟩
  rw [Around.under_plainId plain_contains_loop _]
  exact go
end
section
variable {X : Cx} {k : Nat} {C : Addr} {sp : Sp}
/-- what == of two instances says here: some bool, and the objects stand -/
def EqSome (C : Addr) (sp : Sp) (H : Hp) (y x : V) : Prop := ∀ H', Same H H' → ∃ a dx fs b dy gs, y = .ref a ∧ x = .ref b ∧ H' a = some (.ins C dx fs) ∧ H' b = some (.ins C dy gs) ∧
  sp [y, x] H' (fun v H2 => (∃ r, v = .bl r) ∧ Same H' H2) (fun _ _ _ => False)
/-- x in xs, where x itself stands in xs -/
def rInO (C : Addr) (sp : Sp) (b : Bool) : R2 := fun x y H Q => ∃ p xs, y = .ref p ∧ H p = some (.lst xs) ∧ x ∈ xs ∧ (∀ z ∈ xs, EqSome C sp H z x) ∧ ∀ H', Same H H' → Q (.bl b) H'
theorem inO_run (c : CalO X.prog X.w X.K X.mg X.base C "__eq__" k sp) (hr : Room (k + 2) X.A) {pins : List (Addr × Obj)} {s : Shared} {σ : L2.St} {H : Hp} {x : V} {u : Value} {p : Addr} {xs : List V} (I : Inv X pins σ H s)
    (rx : RelV x u) (hp : H p = some (.lst xs)) (hx : x ∈ xs) (hz : ∀ z ∈ xs, EqSome C sp H z x) :
    wpAny (model X.prog X.w) X.A (call (.builtin "list.__contains__") [.ref p, u]) (fun v s' => v = .bool true ∧ ∃ H', Inv X pins σ H' s' ∧ Same H H') X.xe s := by
  obtain ⟨f, S, sf, F⟩ := c
  have hr1 : Room k X.A.in1 := hr.in1.mono (Nat.le_succ k)
  obtain ⟨j, hj⟩ := List.mem_iff_getElem?.mp hx
  refine lookList p u xs.length (fun i s' => (∃ H', Inv X pins σ H' s' ∧ Same H H') ∧ i ≤ j) (fun i s' hi => ?_) (fun s' hi => ?_) ⟨⟨H, I, Same.refl H⟩, Nat.zero_le _⟩
  · obtain ⟨⟨H', I', sm⟩, ij⟩ := hi
    obtain ⟨_, its, n, rv, e⟩ := (show ObjOk X.prog X.w H' s'.heap p (.lst xs) from I'.hok p _ (sm _ _ hp))
    refine ⟨its.toArray, n, e, by rw [List.size_toArray, ← rv.length], fun h1 => ?_⟩
    have h1' : i < xs.length := by rw [rv.length]; simpa using h1
    obtain ⟨v, hv, rz⟩ := rv.get (List.getElem?_eq_getElem h1')
    have ev : its.toArray[i] = v := by
      have h2 : i < its.length := by simpa using h1
      rw [List.getElem?_eq_getElem h2] at hv
      simpa using Option.some.inj hv
    rw [ev]
    obtain ⟨a, dx, fs, b, dy, gs, ey, ex, ha, hb, hsp⟩ := hz _ (List.getElem_mem h1') H' sm
    rw [ey] at rz
    subst ex
    obtain rfl : v = Value.ref a := rz
    obtain rfl : u = Value.ref b := rx
    by_cases hab : a = b
    · subst hab
      exact SeqAt.EqAt.same (A := X.A.in1) (s := s') (.ref a) X.prog X.w _ _ (by
        rw [if_pos rfl]
        exact ⟨rfl, H', I', sm⟩)
    · have ij' : i ≠ j := by
        rintro rfl
        rw [List.getElem?_eq_getElem h1', ey] at hj
        cases hj
        exact hab rfl
      refine GQ.eqBool_refG hab ?_
      obtain ⟨ox, od, Ja⟩ := instAt I' ha
      obtain ⟨oy, oe, Jb⟩ := instAt I' hb
      obtain ⟨m, fr⟩ := I'.fr
      apply PySem.W.cmp_K (op := .Eq) (tb := .ref C) hr1.units0 fr I'.ok.mod.kin Ja Jb.type (by simp [PySem.W.notFirst]) S.at_ S.fn
      refine wpAny_call (codeAny_mono (F X.A.in1 X.stack s' H' [.ref a, .ref b] [.ref a, .ref b] _ (fun _ _ _ => False) hr1 I'.env0.in1 (.cons rfl (.cons rfl .nil)) (by rw [ey] at hsp; exact hsp)) fun q s2 hq => ?_)
      rcases q with e | fl
      · exact (cxN hq).elim
      rcases fl with _ | _ | _ | u'
      · exact False.elim hq
      · exact False.elim hq
      · exact False.elim hq
      obtain ⟨v', H2, I2, rv', ⟨r, er⟩, sm2⟩ := I'.after hq
      subst er
      obtain rfl : u' = Value.bool r := rv'
      refine ⟨r, rfl, ?_⟩
      cases r with
      | true => exact ⟨rfl, H2, I2, sm.trans sm2⟩
      | false => exact ⟨⟨H2, I2, sm.trans sm2⟩, by omega⟩
  · have := (List.getElem?_eq_some_iff.mp hj).1
    omega
theorem z_inO (c : CalO X.prog X.w X.K X.mg X.base C "__eq__" k sp) {j : Nat} (hr : Room j X.A) (hj : k + 2 ≤ j := by decide) : OpR X (compareOp .In) (rInO C sp true) := by
  intro pins s σ H x y v u Q I rx ry h
  obtain ⟨p, xs, rfl, hp, hx, hz, q⟩ := h
  obtain rfl : u = Value.ref p := ry
  obtain ⟨_, its, n, _, e⟩ := (show ObjOk X.prog X.w H s.heap p (.lst xs) from I.hok p _ hp)
  show wpAny _ X.A (do return Value.bool (← contains (.ref p) v)) _ _ s
  refine wpAny_bind (wpAny_contains_slot ⟨_, e, rfl⟩ F.slot_list_contains (wpAny_mono (inO_run c (hr.mono hj) I rx hp hx hz) (fun r s' hv => ?_) fun _ _ z => z))
  obtain ⟨rfl, H', I', sm⟩ := hv
  exact wpAny_truthy_bool (wpAny_pure ⟨.bl true, H', I', rfl, q H' sm⟩)
theorem z_notInO (c : CalO X.prog X.w X.K X.mg X.base C "__eq__" k sp) {j : Nat} (hr : Room j X.A) (hj : k + 2 ≤ j := by decide) : OpR X (compareOp .NotIn) (rInO C sp false) := by
  intro pins s σ H x y v u Q I rx ry h
  obtain ⟨p, xs, rfl, hp, hx, hz, q⟩ := h
  obtain rfl : u = Value.ref p := ry
  obtain ⟨_, its, n, _, e⟩ := (show ObjOk X.prog X.w H s.heap p (.lst xs) from I.hok p _ hp)
  show wpAny _ X.A (do return Value.bool (!(← contains (.ref p) v))) _ _ s
  refine wpAny_bind (wpAny_contains_slot ⟨_, e, rfl⟩ F.slot_list_contains (wpAny_mono (inO_run c (hr.mono hj) I rx hp hx hz) (fun r s' hv => ?_) fun _ _ z => z))
  obtain ⟨rfl, H', I', sm⟩ := hv
  exact wpAny_truthy_bool (wpAny_pure ⟨.bl false, H', I', rfl, q H' sm⟩)
/-- xs != ys, two lists of the very same objects -/
def rNeL : R2 := fun x y H Q => ∃ a b xs, x = .ref a ∧ y = .ref b ∧ H a = some (.lst xs) ∧ H b = some (.lst xs) ∧ (∀ z ∈ xs, ∃ p, z = .ref p) ∧ Q (.bl false) H
theorem z_neL (hu : X.A.units < cLine) : OpR X (compareOp .NotEq) rNeL := by
  intro pins s σ H x y v u Q I rx ry h
  obtain ⟨a, b, xs, rfl, rfl, ha, hb, hz, q⟩ := h
  obtain rfl : v = Value.ref a := rx
  obtain rfl : u = Value.ref b := ry
  obtain ⟨_, its, n, rv, e⟩ := (show ObjOk X.prog X.w H s.heap a (.lst xs) from I.hok a _ ha)
  obtain ⟨_, its2, n2, rv2, e2⟩ := (show ObjOk X.prog X.w H s.heap b (.lst xs) from I.hok b _ hb)
  have same : ∀ {zs : List V} {us vs : List Value}, (∀ z ∈ zs, ∃ p, z = .ref p) → Vals zs us → Vals zs vs → us = vs := by
    intro zs
    induction zs with
    | nil =>
      intro us vs _ r1 r2
      cases r1; cases r2; rfl
    | cons z zs ih =>
      intro us vs hz r1 r2
      cases r1 with
      | cons a1 t1 =>
        cases r2 with
        | cons a2 t2 =>
          obtain ⟨p, ep⟩ := hz z (by simp)
          subst ep
          cases a1; cases a2
          rw [ih (fun z h => hz z (by simp [h])) t1 t2]
  obtain rfl := same hz rv rv2
  show wpAny _ X.A (richCompare .NotEq _ _) _ _ s
  refine SeqAt.RcNeAt.lists (e := fun _ => true) ⟨_, e, rfl, n, rfl⟩ ⟨_, e2, rfl, n2, rfl⟩ rfl hu (fun j h1 h2 => SeqAt.EqAt.same _) X.prog X.w _ _ ?_
  refine ⟨.bl false, H, I, ?_, q⟩
  have : (List.range its.toArray.size).all (fun _ => true) = true := by simp
  rw [this]
  rfl
end
end Z

set_option Elab.async false
set_option linter.all false
set_option maxRecDepth 100000
set_option maxHeartbeats 4000000
/-! ratios: what stands for them, and what their defs promise -/
namespace Z
open PySem PySem.Spec PyProof.Rows L2
/-- an own class whose instances are asked by isinstance -/
structure ClO (K : PySem.W.Frag) (C : Addr) : Prop extends Cls K C where
  ha : PySem.W.findIn K (.ref C) "__class__" = some (some (.builtin "object.__class__"))
  hn : PySem.W.specialIn K (.builtin "object.__class__") "__get__" = some (some (.builtin "getset_descriptor.__get__"))
  htk : PySem.W.takesIn K (.builtin "object.__class__") = some true
  hm : PySem.W.mroIn K C (.type "object") = some true
theorem ClO.ty {K : PySem.W.Frag} {C a dx : Addr} {H : Hp} {fs : List (Str × V)} (c : ClO K C) (e : H a = some (.ins C dx fs)) : TyX K H (.ref a) (.ref C) := .base (.ins e c.toCls c.ha c.hn c.htk c.hm)
theorem Same.at {H H' : Hp} {a : Addr} {o : HO} (s : Same H H') (e : H a = some o) : H' a = some o := s a o e
theorem Same.of_ne {H H' : Hp} {p : Addr} (hp : H p = none) (h : ∀ b, b ≠ p → H' b = H b) : Same H H' := fun b o e => (h b (ne_of_none e hp)).trans e

/-! ### an error with one attribute, made and raised -/
def rMkO (C : Addr) (sp : Sp) (vs : List V) (H1 : Hp) (Q : XK) : Prop := vs.length ≤ 1000 ∧ ∀ a, H1 a = none → sp (.ref a :: (vs ++ [])) (upd H1 a (exo a C none))
  (fun v H2 => v = .non ∧ ∃ (d : Addr) (fs : List (Str × V)), H2 a = some (exo a C (some d)) ∧ H2 d = some (exd d fs) ∧ H1 d = none ∧ Q (.ref C) (some d) (upd (del H2 a) d (.xd fs))) (fun _ _ _ => False)
theorem i_mkO {C : Addr} {sp : Sp} {ta : TA} {σ : L2.St} {H : Hp} {Q : XK} (h : ta σ H (fun vs H1 => rMkO C sp vs H1 Q)) : tMkO C sp [] ta σ H Q := h
/-- __init__ keeps the one argument under the name f -/
def spX1 (K : PySem.W.Frag) (C : Addr) (f : Str) (G : V → Hp → Prop) : Sp := fun vs H Q _ => vs.length = 2 ∧ ∃ a v, vs = [.ref a, v] ∧ H a = some (exo a C none) ∧ G v H ∧
  ∀ dx H1, H dx = none → dx ≠ a → Same H H1 → H1 dx = none → Q .non (upd (upd H1 dx (exd dx [(f, v)])) a (exo a C (some dx)))
theorem i_mkX1 {K : PySem.W.Frag} {C : Addr} {f : Str} {G : V → Hp → Prop} {v : V} {H : Hp} {Q : XK} (g : ∀ H', Same H H' → G v H') (h : ∀ d H', H d = none → Same H H' → H' d = some (.xd [(f, v)]) → Q (.ref C) (some d) H') :
    rMkO C (spX1 K C f G) [v] H Q := by
  refine ⟨by show 1 ≤ 1000; decide, fun a ha => ?_⟩
  have s0 : Same H (upd H a (exo a C none)) := fun b o e => by rw [upd_ne (ne_of_none e ha)]; exact e
  refine ⟨rfl, a, v, rfl, upd_same, g _ s0, fun dx H1 hd hne sm hd1 => ?_⟩
  have hdH : H dx = none := by rw [upd_ne hne] at hd; exact hd
  refine ⟨rfl, dx, [(f, v)], upd_same, by rw [upd_ne hne, upd_same], hdH, h dx _ hdH (fun b o e => ?_) upd_same⟩
  have nb : b ≠ dx := ne_of_none e hdH
  have na : b ≠ a := ne_of_none e ha
  rw [upd_ne nb, del_ne na, upd_ne na, upd_ne nb]
  exact sm b o (s0 b o e)

/-! ### f-strings, by parts -/
def rFmt (x : V) (H1 : Hp) (Q : VK) : Prop := (∃ y : Str, x = .str y ∧ y.length ≤ sizeLine ∧ Q (.str y) H1) ∨ ∃ i : Int, x = .int i ∧ i.natAbs.log2 < 1920 ∧ Q (.str (toString i)) H1
theorem i_fmt {te : TE} {σ : L2.St} {H : Hp} {Q : VK} (h : te σ H (fun x H1 => rFmt x H1 Q)) : tFmt te σ H Q := h
theorem i_fmtS {y : Str} {H : Hp} {Q : VK} (l : y.length ≤ sizeLine) (h : Q (.str y) H) : rFmt (.str y) H Q := .inl ⟨y, rfl, l, h⟩

/-! ### ratios -/
def rf (q : Rat) : List (Str × V) := [("top", .int q.num), ("bottom", .int (q.den : Int))]
def IsR (CR : Addr) (H : Hp) (a : Addr) (q : Rat) : Prop := ∃ dx, H a = some (.ins CR dx (rf q))
theorem IsR.mono {CR a : Addr} {H H' : Hp} {q : Rat} (s : Same H H') (h : IsR CR H a q) : IsR CR H' a q := let ⟨dx, e⟩ := h; ⟨dx, s _ _ e⟩
theorem rf_top (q : Rat) : (rf q).lookup ("top" : Str) = some (V.int q.num) := by unfold rf; simp [List.lookup]
theorem rf_bot (q : Rat) : (rf q).lookup ("bottom" : Str) = some (V.int (q.den : Int)) := by
  have h : (("bottom" : Str) == "top") = false := by decide +kernel
  unfold rf
  simp [List.lookup, h]
theorem rf_no {m : Str} (q : Rat) (h1 : (m == ("top" : Str)) = false) (h2 : (m == ("bottom" : Str)) = false) : (rf q).lookup m = none := by
  unfold rf
  simp [List.lookup, h1, h2]
theorem rf_put1 (v : V) : putF "top" v [] = [(("top" : Str), v)] := rfl
theorem rf_put2 (v u : V) : putF "bottom" v [(("top" : Str), u)] = [(("top" : Str), u), (("bottom" : Str), v)] := by
  show (if ("top" : Str) = "bottom" then _ else (("top" : Str), u) :: putF "bottom" v []) = _
  rw [if_neg (by decide +kernel)]
  rfl
theorem i_top {K : PySem.W.Frag} {CR a : Addr} {H : Hp} {q : Rat} {Q : VK} (h : IsR CR H a q) (c : ClO K CR) (n : NoAttr K CR "top") (k : Q (.int q.num) H) : rFld K "top" (.ref a) H Q :=
  let ⟨_, e⟩ := h; i_fld1 e c.toCls n (rf_top q) k
theorem i_bot {K : PySem.W.Frag} {CR a : Addr} {H : Hp} {q : Rat} {Q : VK} (h : IsR CR H a q) (c : ClO K CR) (n : NoAttr K CR "bottom") (k : Q (.int (q.den : Int)) H) : rFld K "bottom" (.ref a) H Q :=
  let ⟨_, e⟩ := h; i_fld1 e c.toCls n (rf_bot q) k

/-- the error of a bottom 0 -/
def EBad (CB : Addr) (n : Int) (H : Hp) (E : XK) : Prop := ∀ d H', Same H H' → H' d = some (.xd [("n", .int n)]) → E (.ref CB) (some d) H'
def spRInit (CR CB : Addr) : Sp := fun vs H Q E => vs.length = 3 ∧ ∃ a t b, vs = [.ref a, .int t, .int b] ∧ (∃ dx, H a = some (.ins CR dx [])) ∧ (b = 0 ∨ ZR.Sz 8000 b) ∧
  (b = 0 → EBad CB 0 H E) ∧ (b ≠ 0 → ∀ H', IsR CR H' a ((t : Rat) / (b : Rat)) → (∀ x, x ≠ a → H' x = H x) → Q .non H')
/-- Ratio(t, b) with b other than 0 -/
theorem i_newR {CR CB : Addr} {t b : Int} {H : Hp} {Q : VK} {E : XK} (hb : b ≠ 0) (hz : ZR.Sz 8000 b) (h : ∀ p H', H p = none → Same H H' → IsR CR H' p ((t : Rat) / (b : Rat)) → Q (.ref p) H') :
    rNew CR (spRInit CR CB) [.int t, .int b] H Q E := by
  intro x dx hx hdx hne
  refine ⟨rfl, x, t, b, rfl, ⟨dx, upd_same⟩, .inr hz, fun h0 => absurd h0 hb, fun _ H' hr hs => ⟨rfl, h x H' hx (fun c o e => ?_) hr⟩⟩
  have n1 : c ≠ x := ne_of_none e hx
  rw [hs c n1, upd_ne n1, upd_ne (ne_of_none e hdx)]
  exact e
/-- Ratio(t, 0) -/
theorem i_newR0 {CR CB : Addr} {t : Int} {H : Hp} {Q : VK} {E : XK} (h : EBad CB 0 H E) : rNew CR (spRInit CR CB) [.int t, .int 0] H Q E := by
  intro x dx hx hdx hne
  refine ⟨rfl, x, t, 0, rfl, ⟨dx, upd_same⟩, .inl rfl, fun _ d H' s e => h d H' (fun c o e => s c o ?_) e, fun h0 => absurd rfl h0⟩
  rw [upd_ne (ne_of_none e hx), upd_ne (ne_of_none e hdx)]
  exact e
/-- a def of two ratios that hands back a new one -/
def spR2 (CR : Addr) (f : Rat → Rat → Rat) : Sp := fun vs H Q _ => vs.length = 2 ∧ ∃ a b p q, vs = [.ref a, .ref b] ∧ IsR CR H a p ∧ IsR CR H b q ∧ ZR.Bd 2000 p ∧ ZR.Bd 2000 q ∧
  ∀ c H', H c = none → Same H H' → IsR CR H' c (f p q) → Q (.ref c) H'
def spR1 (CR : Addr) (f : Rat → Rat) : Sp := fun vs H Q _ => vs.length = 1 ∧ ∃ a p, vs = [.ref a] ∧ IsR CR H a p ∧ ZR.Bd 2000 p ∧
  ∀ c H', H c = none → Same H H' → IsR CR H' c (f p) → Q (.ref c) H'
/-- the other side of ==: another ratio, or no ratio -/
def spREq (K : PySem.W.Frag) (CR : Addr) : Sp := fun vs H Q _ => vs.length = 2 ∧ ∃ a p y, vs = [.ref a, y] ∧ IsR CR H a p ∧
  ((∃ b q, y = .ref b ∧ IsR CR H b q ∧ ∀ H', Same H H' → Q (.bl (decide (p = q))) H') ∨
   (∃ t, TyX K H y t ∧ PySem.W.kitOne K t (.ref CR) = some false ∧ ∀ H', Same H H' → Q (.bl false) H'))
def spRBool (CR : Addr) : Sp := fun vs H Q _ => vs.length = 1 ∧ ∃ a p, vs = [.ref a] ∧ IsR CR H a p ∧ ∀ H', Same H H' → Q (.bl (decide (p ≠ 0))) H'
def spRUnder (CR : Addr) : Sp := fun vs H Q _ => vs.length = 2 ∧ ∃ a b p q, vs = [.ref a, .ref b] ∧ IsR CR H a p ∧ IsR CR H b q ∧ ZR.Bd 2000 p ∧ ZR.Bd 2000 q ∧
  ∀ H', Same H H' → Q (.bl (decide (p < q))) H'
def spRQuot (CR CB : Addr) : Sp := fun vs H Q E => vs.length = 2 ∧ ∃ a b p q, vs = [.ref a, .ref b] ∧ IsR CR H a p ∧ IsR CR H b q ∧ ZR.Bd 2000 p ∧ ZR.Bd 2000 q ∧
  (q = 0 → EBad CB 0 H E) ∧ (q ≠ 0 → ∀ c H', H c = none → Same H H' → IsR CR H' c (p / q) → Q (.ref c) H')
def spRWhole (CR : Addr) : Sp := fun vs H Q _ => vs.length = 2 ∧ ∃ n, vs = [.ref CR, .int n] ∧ ∀ c H', H c = none → Same H H' → IsR CR H' c (n : Rat) → Q (.ref c) H'
theorem bd0 {n : Nat} (h : n ≠ 0) : ZR.Bd n 0 := ⟨Nat.two_pow_pos n, Nat.one_lt_two_pow h⟩
section
variable {K : PySem.W.Frag} {CR CB a b : Addr} {p q : Rat} {H : Hp} {Q : VK} {E : XK} {f : Rat → Rat → Rat} {f1 : Rat → Rat}
theorem i_R2 (ha : IsR CR H a p) (hb : IsR CR H b q) (bp : ZR.Bd 2000 p) (bq : ZR.Bd 2000 q) (h : ∀ c H', H c = none → Same H H' → IsR CR H' c (f p q) → Q (.ref c) H') : rOwn CR (spR2 CR f) (.ref a) (.ref b) H Q := by
  obtain ⟨dx, e1⟩ := id ha
  obtain ⟨dy, e2⟩ := id hb
  exact ⟨a, b, dx, dy, _, _, rfl, rfl, e1, e2, rfl, a, b, p, q, rfl, ha, hb, bp, bq, h⟩
theorem i_R1 (ha : IsR CR H a p) (bp : ZR.Bd 2000 p) (h : ∀ c H', H c = none → Same H H' → IsR CR H' c (f1 p) → Q (.ref c) H') : rOwn1 CR (spR1 CR f1) (.ref a) H Q := by
  obtain ⟨dx, e1⟩ := id ha
  exact ⟨a, dx, _, rfl, e1, rfl, a, p, rfl, ha, bp, h⟩
theorem self_first : PySem.W.notFirst K CR (.ref CR) = true := by simp [PySem.W.notFirst]
theorem i_Req (ha : IsR CR H a p) (hb : IsR CR H b q) (h : ∀ H', Same H H' → Q (.bl (decide (p = q))) H') : rOwnC K CR (spREq K CR) (.ref a) (.ref b) H Q := by
  obtain ⟨dx, e1⟩ := id ha
  obtain ⟨dy, e2⟩ := id hb
  exact ⟨a, dx, _, _, rfl, e1, .ins e2, self_first, rfl, a, p, _, rfl, ha, .inl ⟨b, q, rfl, hb, h⟩⟩
theorem i_Rne (ha : IsR CR H a p) (hb : IsR CR H b q) (h : ∀ H', Same H H' → Q (.bl (!decide (p = q))) H') : rOwnN K CR (spREq K CR) (.ref a) (.ref b) H Q := by
  obtain ⟨dx, e1⟩ := id ha
  obtain ⟨dy, e2⟩ := id hb
  exact ⟨a, dx, _, _, rfl, e1, .ins e2, self_first, rfl, a, p, _, rfl, ha, .inl ⟨b, q, rfl, hb, fun H' s => ⟨_, rfl, h H' s⟩⟩⟩
theorem i_ReqI {i : Int} (ha : IsR CR H a p) (hk : PySem.W.kitOne K (.type "int") (.ref CR) = some false) (hn : PySem.W.notFirst K CR (.type "int") = true) (h : ∀ H', Same H H' → Q (.bl false) H') : rOwnC K CR (spREq K CR) (.ref a) (.int i) H Q := by
  obtain ⟨dx, e1⟩ := id ha
  exact ⟨a, dx, _, _, rfl, e1, .int i, hn, rfl, a, p, _, rfl, ha, .inr ⟨_, .base (.int i), hk, h⟩⟩
theorem i_ReqS {z : Str} (ha : IsR CR H a p) (hk : PySem.W.kitOne K (.type "str") (.ref CR) = some false) (hn : PySem.W.notFirst K CR (.type "str") = true) (h : ∀ H', Same H H' → Q (.bl false) H') : rOwnC K CR (spREq K CR) (.ref a) (.str z) H Q := by
  obtain ⟨dx, e1⟩ := id ha
  exact ⟨a, dx, _, _, rfl, e1, .str z, hn, rfl, a, p, _, rfl, ha, .inr ⟨_, .base (.str z), hk, h⟩⟩
theorem i_Rbool (ha : IsR CR H a p) (h : ∀ H', Same H H' → Q (.bl (decide (p ≠ 0))) H') : rBoolOwn CR (spRBool CR) [.ref a] H Q := by
  obtain ⟨dx, e1⟩ := id ha
  exact ⟨a, dx, _, rfl, e1, rfl, a, p, rfl, ha, fun H' s => ⟨_, rfl, h H' s⟩⟩
theorem i_under0 {P : Prop} (ha : IsR CR H a p) (h : P) : rMeth CR "under" (.ref a) H P := let ⟨_, e⟩ := ha; i_meth1 e (rf_no p (by decide +kernel) (by decide +kernel)) h
theorem i_quot0 {P : Prop} (ha : IsR CR H a p) (h : P) : rMeth CR "quotient" (.ref a) H P := let ⟨_, e⟩ := ha; i_meth1 e (rf_no p (by decide +kernel) (by decide +kernel)) h
theorem i_under (ha : IsR CR H a p) (hb : IsR CR H b q) (bp : ZR.Bd 2000 p) (bq : ZR.Bd 2000 q) (h : ∀ H', Same H H' → Q (.bl (decide (p < q))) H') : spRUnder CR [.ref a, .ref b] H Q E :=
  ⟨rfl, a, b, p, q, rfl, ha, hb, bp, bq, h⟩
theorem i_quot (ha : IsR CR H a p) (hb : IsR CR H b q) (bp : ZR.Bd 2000 p) (bq : ZR.Bd 2000 q) (h0 : q ≠ 0) (h : ∀ c H', H c = none → Same H H' → IsR CR H' c (p / q) → Q (.ref c) H') : spRQuot CR CB [.ref a, .ref b] H Q E :=
  ⟨rfl, a, b, p, q, rfl, ha, hb, bp, bq, fun z => absurd z h0, fun _ => h⟩
theorem i_quot00 (ha : IsR CR H a p) (hb : IsR CR H b 0) (bp : ZR.Bd 2000 p) (h : EBad CB 0 H E) : spRQuot CR CB [.ref a, .ref b] H Q E :=
  ⟨rfl, a, b, p, 0, rfl, ha, hb, bp, bd0 (by decide), fun _ => h, fun z => absurd rfl z⟩
theorem i_whole {n : Int} (h : ∀ c H', H c = none → Same H H' → IsR CR H' c (n : Rat) → Q (.ref c) H') : spRWhole CR [.ref CR, .int n] H Q E := ⟨rfl, n, rfl, h⟩
end
/-! ### the law's own helpers -/
def Pool (H : Hp) (p : Addr) : Prop := ∃ (c k : Int) (f : Bool), H p = some (.lst [V.int c, V.int k, V.bl f])
def spPool : Sp := fun vs H Q _ => vs.length = 1 ∧ ∃ c, vs = [.int c] ∧ ∀ p H', H p = none → Same H H' → (∀ b, b ≠ p → H' b = H b) → Pool H' p → Q (.ref p) H'
def spTake : Sp := fun vs H Q _ => vs.length = 2 ∧ ∃ p l, vs = [.ref p, .int l] ∧ Pool H p ∧ 0 < l ∧ ZR.Sz 8000 l ∧ ∀ r H', 0 ≤ r → r < l → (∀ b, b ≠ p → H' b = H b) → Pool H' p → Q (.int r) H'
def spCell (K : PySem.W.Frag) : Sp := fun vs H Q _ => vs.length = 2 ∧ ∃ (a : Addr) (ns : List Int) (k : Nat), vs = [.ref a, .int k] ∧ SqL K H a (ns.map V.int) ∧ ∀ i, Q (.int i) H
section
variable {K : PySem.W.Frag} {p a : Addr} {H : Hp} {Q : VK} {E : XK}
theorem i_pool {c : Int} (h : ∀ p H', H p = none → Same H H' → (∀ b, b ≠ p → H' b = H b) → Pool H' p → Q (.ref p) H') : spPool [.int c] H Q E := ⟨rfl, c, rfl, h⟩
theorem i_take {l : Int} (hp : Pool H p) (h0 : 0 < l) (hz : ZR.Sz 8000 l) (h : ∀ r H', 0 ≤ r → r < l → (∀ b, b ≠ p → H' b = H b) → Pool H' p → Q (.int r) H') : spTake [.ref p, .int l] H Q E := ⟨rfl, p, l, rfl, hp, h0, hz, h⟩
theorem i_cell {ns : List Int} {k : Nat} (hs : SqL K H a (ns.map V.int)) (h : ∀ i, Q (.int i) H) : spCell K [.ref a, .int k] H Q E := ⟨rfl, a, ns, k, rfl, hs, h⟩
end
/-! ### lists of ints compared -/
theorem dp_ints {K : PySem.W.Frag} {H : Hp} : ∀ ns : List Int, DpAll K H (ns.map V.int) (ns.map PyData.int)
  | [] => .nil
  | n :: ns => .cons (.int n) (dp_ints ns)
theorem eqv_ints : ∀ ns ms : List Int, PyData.eqvAll (ns.map PyData.int) (ms.map PyData.int) = decide (ns = ms)
  | [], [] => rfl
  | [], _ :: _ => rfl
  | _ :: _, [] => rfl
  | n :: ns, m :: ms => by
    show (PyData.eqv (.int n) (.int m) && PyData.eqvAll _ _) = _
    rw [eqv_ints ns ms]
    show ((n == m) && _) = _
    by_cases h1 : n = m <;> by_cases h2 : ns = ms <;> simp [h1, h2]
theorem lay_ints : ∀ ns : List Int, PyData.canLayAll0 (ns.map PyData.int) = true
  | [] => rfl
  | n :: ns => by
    show (PyData.canLay0 (.int n) && PyData.canLayAll0 _) = true
    rw [lay_ints ns]
    rfl
end Z

set_option Elab.async false
set_option linter.all false
set_option maxRecDepth 100000
set_option maxHeartbeats 4000000
/-! more readings -/
namespace Z
open PySem PySem.Spec PyProof.Rows L2
section
variable {X : Cx} {K : PySem.W.Frag} {σ σ' : L2.St} {H H1 : Hp} {D : Ends} {t u : TS} {te ta tb tc to : TE} {tt tu : TT} {tr : TA} {g : TG} {gs : TGs} {Q : VK} {QB : Bool → Hp → Prop} {QA : List V → Hp → Prop} {QS : L2.St → Hp → Prop} {QH : Hp → Prop} {v w x y : V} {i j : Nat} {A B : Prop} {b : Bool}
theorem i_isiT {tv : Value} {s : String} (ty : TyX K H x tv) (hk : PySem.W.kitOne K tv (.type s) = some b) (h : Q (.bl b) H) : rIsi K [x, .ty s] H Q := ⟨x, _, tv, _, b, rfl, .ty s, ty, hk, h⟩
theorem i_isiO {tv : Value} {C : Addr} (ty : TyX K H x tv) (hk : PySem.W.kitOne K tv (.ref C) = some b) (h : Q (.bl b) H) : rIsi K [x, .ref C] H Q := ⟨x, _, tv, _, b, rfl, .own C, ty, hk, h⟩
theorem tyInt (n : Int) : TyX K H (.int n) (.type "int") := .base (.int n)
theorem tyStr (z : Str) : TyX K H (.str z) (.type "str") := .base (.str z)
def rBits (x : V) (H1 : Hp) (Q : VK) : Prop := ∃ i : Int, x = .int i ∧ Q (.int (Builtin.Int.intBits i : Nat)) H1
theorem i_bits {n : Int} (h : Q (.int (Builtin.Int.intBits n : Nat)) H) : rBits (.int n) H Q := ⟨n, rfl, h⟩
theorem i_bits0 (h : to σ H (fun x H1 => rBits x H1 Q)) : tBits to σ H Q := h
theorem i_jsC {ts : List TE} {acc : Str} {QJ : Str → Hp → Prop} (h : te σ H (fun x H1 => ∃ y : Str, x = .str y ∧ (acc ++ y).length ≤ sizeLine ∧ tJs ts (acc ++ y) σ H1 QJ)) : tJs (te :: ts) acc σ H QJ := h
theorem i_jsN {acc : Str} {QJ : Str → Hp → Prop} (h : QJ acc H) : tJs [] acc σ H QJ := h
theorem Same_seqT {H H' : Hp} {a : Addr} {xs : List V} (e : Same H H') (h : SqT K H a xs) : SqT K H' a xs := by
  rcases h with (h | ⟨o, h⟩) | h
  · exact .inl (.inl (e _ _ h))
  · exact .inl (.inr ⟨o, e _ _ h⟩)
  · exact .inr h
/-! loops -/
def rFor (it : It) (g : TG) (tb : TS) (D : Ends) (σ : L2.St) (H1 : Hp) : Prop := ∃ W : Nat → Nat → L2.St → Hp → Prop, (∃ m, W 0 m σ H1) ∧ ∀ i m σ H, W i m σ H →
  (it.stop i H ∧ D.nx σ H) ∨ (it.go i H ∧ ∃ N : L2.St → Hp → Prop, (∀ σ' H', N σ' H' → ∃ m', m' < m ∧ W (i + 1) m' σ' H') ∧ ∀ x H', it.yld i H x H' → g x σ H' fun σ2 H2 => tb { D with nx := N, ct := N, bk := D.nx } σ2 H2)
def rForL (K : PySem.W.Frag) (g : TG) (tb : TS) (D : Ends) (σ : L2.St) (x : V) (H1 : Hp) : Prop := ∃ a, x = .ref a ∧ (∃ xs, SqL K H1 a xs) ∧ rFor (Itl K a) g tb D σ H1
def rForT (K : PySem.W.Frag) (g : TG) (tb : TS) (D : Ends) (σ : L2.St) (x : V) (H1 : Hp) : Prop := ∃ a, x = .ref a ∧ (∃ xs, SqT K H1 a xs) ∧ rFor (Itt K a) g tb D σ H1
def rForR (g : TG) (tb : TS) (D : Ends) (σ : L2.St) (vs : List V) (H1 : Hp) : Prop := ∃ j : Int, vs = [.int j] ∧ -(2 ^ 62) ≤ j ∧ j < 2 ^ 62 ∧ rFor (Itr 0 j.toNat) g tb D σ H1
theorem i_forL0 {tl : TE} {tb : TS} (h : tl σ H (fun x H1 => rForL K g tb D σ x H1)) : tFor (iList K tl) g tb D σ H := h
theorem i_forT0 {tl : TE} {tb : TS} (h : tl σ H (fun x H1 => rForT K g tb D σ x H1)) : tFor (iTup K tl) g tb D σ H := h
theorem i_forR0 {tb : TS} (h : tr σ H (fun vs H1 => rForR g tb D σ vs H1)) : tFor (iRng1 tr) g tb D σ H := h
theorem i_forL {a : Addr} {xs : List V} {tb : TS} (Pv : Nat → L2.St → Hp → Prop) (s : SqL K H a xs) (h0 : Pv 0 σ H) (hl : ∀ i σ H, i ≤ xs.length → Pv i σ H → SqL K H a xs)
    (hs : ∀ i x σ H, xs[i]? = some x → Pv i σ H → g x σ H fun σ2 H2 => tb { D with nx := Pv (i + 1), ct := Pv (i + 1), bk := D.nx } σ2 H2) (hd : ∀ σ H, Pv xs.length σ H → D.nx σ H) : rForL K g tb D σ (.ref a) H :=
  ⟨a, rfl, ⟨xs, s⟩, for_list Pv h0 hl hs hd⟩
theorem i_forT {a : Addr} {xs : List V} {tb : TS} (Pv : Nat → L2.St → Hp → Prop) (s : SqT K H a xs) (h0 : Pv 0 σ H) (hl : ∀ i σ H, i ≤ xs.length → Pv i σ H → SqT K H a xs)
    (hs : ∀ i x σ H, xs[i]? = some x → Pv i σ H → g x σ H fun σ2 H2 => tb { D with nx := Pv (i + 1), ct := Pv (i + 1), bk := D.nx } σ2 H2) (hd : ∀ σ H, Pv xs.length σ H → D.nx σ H) : rForT K g tb D σ (.ref a) H := by
  refine ⟨a, rfl, ⟨xs, s⟩, fun i m σ H => m = xs.length - i ∧ i ≤ xs.length ∧ Pv i σ H, ⟨xs.length, by simp, Nat.zero_le _, h0⟩, ?_⟩
  rintro i m σ H ⟨rfl, hi, p⟩
  have q := hl i σ H hi p
  by_cases hlt : i < xs.length
  · refine .inr ⟨⟨xs, xs[i], q, by simp [hlt]⟩, Pv (i + 1), fun σ' H' p' => ⟨xs.length - (i + 1), by omega, rfl, hlt, p'⟩, fun x H' y => ?_⟩
    obtain ⟨e, y⟩ := y
    subst e
    exact hs i x σ _ (y xs q) p
  · have e : i = xs.length := by omega
    subst e
    exact .inl ⟨⟨xs, q, Nat.le_refl _⟩, hd σ H p⟩
theorem i_forR {n : Nat} {k : Int} {tb : TS} (hk : k = (n : Int)) (hn : n < 1000000) (Pv : Nat → L2.St → Hp → Prop) (h0 : Pv 0 σ H)
    (hs : ∀ i σ H, i < n → Pv i σ H → g (.int (i : Nat)) σ H fun σ2 H2 => tb { D with nx := Pv (i + 1), ct := Pv (i + 1), bk := D.nx } σ2 H2) (hd : ∀ σ H, Pv n σ H → D.nx σ H) : rForR g tb D σ [.int k] H := by
  refine ⟨k, rfl, by omega, by omega, ?_⟩
  have e : k.toNat = n := by omega
  rw [e]
  refine for_range Pv h0 (fun i σ H hi p => ?_) hd
  rw [Int.zero_add]
  exact hs i σ H hi p
/-! comprehensions over lists -/
def rLcL (K : PySem.W.Frag) (g : TG) (tt : TT) (te : TE) (vs : List Nat) (σ : L2.St) (Q : VK) (x : V) (H1 : Hp) : Prop := ∃ a, x = .ref a ∧ (∃ xs, SqL K H1 a xs) ∧ ∀ D, H1 D = none → ∃ W : Nat → Nat → Hp → Prop, (∃ m, W 0 m (upd H1 D (.lst []))) ∧ ∀ i m H, W i m H →
  ((Itl K a).stop i H ∧ Q (.ref D) H) ∨ ((Itl K a).go i H ∧ ∃ Nx : Hp → Prop, (∀ H', Nx H' → ∃ m', m' < m ∧ W (i + 1) m' H') ∧ ∀ x H', (Itl K a).yld i H x H' → g x (wipe σ vs) H' fun σ2 H2 => wipe σ2 vs = wipe σ vs ∧ tt σ2 H2 fun b H3 =>
    if b = true then te σ2 H3 fun y H4 => ∃ acc, H4 D = some (.lst acc) ∧ acc.length < sizeLine ∧ Nx (upd H4 D (.lst (acc ++ [y]))) else Nx H3)
theorem i_lcL0 {tl : TE} {vs : List Nat} (h : tl σ H (fun x H1 => rLcL K g tt te vs σ Q x H1)) : tLc (iList K tl) g tt te vs σ H Q := h
theorem i_yes (h : QB true H) : tYes σ H QB := h
def LcS (D : Addr) (Pv : Nat → List V → Hp → Prop) (i : Nat) (H : Hp) : Prop := ∃ ys, H D = some (.lst ys) ∧ Pv i ys H
def rLcE (D : Addr) (Pv : Nat → List V → Hp → Prop) (i : Nat) (y : V) (H4 : Hp) : Prop := ∃ acc, H4 D = some (.lst acc) ∧ acc.length < sizeLine ∧ LcS D Pv (i + 1) (upd H4 D (.lst (acc ++ [y])))
theorem i_lcE {D : Addr} {Pv : Nat → List V → Hp → Prop} {ys : List V} (e : H D = some (.lst ys)) (l : ys.length < 100000) (h : ∀ H5, H5 D = some (.lst (ys ++ [y])) → (∀ c, c ≠ D → H5 c = H c) → Pv (i + 1) (ys ++ [y]) H5) : rLcE D Pv i y H :=
  ⟨ys, e, Nat.lt_of_lt_of_le l (by decide), ys ++ [y], upd_same, h _ upd_same (fun c hc => upd_ne hc)⟩
/-- the results so far stand in D (a new list), Pv tells the rest -/
theorem i_lcL {a : Addr} {xs : List V} {vs : List Nat} (Pv : Nat → List V → Hp → Prop) (s : SqL K H a xs) (h0 : ∀ D H', H D = none → Same H H' → H' D = some (.lst []) → (∀ b, b ≠ D → H' b = H b) → Pv 0 [] H')
    (hl : ∀ i ys H, Pv i ys H → SqL K H a xs)
    (hs : ∀ i x D ys H1, H D = none → xs[i]? = some x → H1 D = some (.lst ys) → Pv i ys H1 → g x (wipe σ vs) H1 fun σ2 H2 => wipe σ2 vs = wipe σ vs ∧ tt σ2 H2 fun b H3 => if b = true then te σ2 H3 fun y H4 => rLcE D Pv i y H4 else LcS D Pv (i + 1) H3)
    (hd : ∀ D ys H1, H D = none → H1 D = some (.lst ys) → Pv xs.length ys H1 → Q (.ref D) H1) : rLcL K g tt te vs σ Q (.ref a) H := by
  refine ⟨a, rfl, ⟨xs, s⟩, fun D hD => ?_⟩
  refine lc_list (xs := xs) (LcS D Pv) ?_ ?_ ?_ ?_
  · exact ⟨[], upd_same, h0 D _ hD (fun b o e => by rw [upd_ne (ne_of_none e hD)]; exact e) upd_same (fun b hb => upd_ne hb)⟩
  · rintro i H' _ ⟨ys, _, p⟩
    exact hl i ys H' p
  · rintro i x H' hi ⟨ys, hD', p⟩
    exact hs i x D ys H' hD hi hD' p
  · rintro H' ⟨ys, hD', p⟩
    exact hd D ys H' hD hD' p
theorem i_wipe {A B : Prop} (a : A) (b : B) : A ∧ B := ⟨a, b⟩
/-! targets, stores -/
theorem i_gsub {ti : TE} {r : V → V → V → Hp → (Hp → Prop) → Prop} (h : to σ H (fun o H1 => ti σ H1 (fun i H2 => r o i v H2 (fun H3 => QS σ H3)))) : gSub to ti r v σ H QS := h
theorem i_setL {p : Addr} {xs ys : List V} {k : Int} {j : Nat} (e : H p = some (.lst xs)) (hj : ixN xs.length k = some j) (w : xs.set j v = ys) (h : ∀ H2, H2 p = some (.lst ys) → (∀ b, b ≠ p → H2 b = H b) → QH H2) : rSetL (.ref p) (.int k) v H QH :=
  ⟨p, xs, k, j, rfl, rfl, e, hj, h _ (by rw [w]; exact upd_same) (fun b hb => upd_ne hb)⟩
theorem i_par (h : tr σ H (fun vs H1 => ∃ v w, vs = [v, w] ∧ D.nx ((σ.set i (some v)).set j (some w)) H1)) : tPar i j tr D σ H := h
theorem i_par1 {P : V → V → Prop} (h : P v w) : ∃ v' w', [v, w] = [v', w'] ∧ P v' w' := ⟨v, w, rfl, h⟩
theorem i_glst {a : Addr} {xs : List V} {n : Nat} (s : SqL K H a xs) (hn : xs.length = n) (h : gs xs σ H QS) : gLst K n gs (.ref a) σ H QS := ⟨a, xs, rfl, s, hn, h⟩
theorem i_gtup {a : Addr} {xs : List V} {n : Nat} (s : SqT K H a xs) (hn : xs.length = n) (h : gs xs σ H QS) : gTup K n gs (.ref a) σ H QS := ⟨a, xs, rfl, s, hn, h⟩
theorem i_gc {vs : List V} (h : g v σ H (fun σ' H' => gs vs σ' H' QS)) : gCons g gs (v :: vs) σ H QS := ⟨v, vs, rfl, h⟩
theorem i_gn (h : QS σ H) : gNil [] σ H QS := ⟨rfl, h⟩
/-! methods of lists -/
theorem i_bm {T : String} {r : V → List V → Hp → VK → Prop} (h : to σ H (fun x H1 => tyV K T x H1 ∧ tr σ H1 (fun xs H2 => r x xs H2 Q))) : tBM K T r to tr σ H Q := h
theorem tyL {p : Addr} {xs : List V} (e : H p = some (.lst xs)) : tyV K "list" (.ref p) H := Or.inl ⟨rfl, _, SqL.of e⟩
theorem i_app {p : Addr} {xs : List V} (e : H p = some (.lst xs)) (l : xs.length < 100000) (h : ∀ H2, H2 p = some (.lst (xs ++ [y])) → (∀ b, b ≠ p → H2 b = H b) → Q .non H2) : rAppend (.ref p) [y] H Q :=
  ⟨p, xs, y, rfl, rfl, e, Nat.lt_of_lt_of_le l (by decide), h _ upd_same (fun b hb => upd_ne hb)⟩
/-! errors' __init__ -/
def rVeI (K : PySem.W.Frag) (vs : List V) (H1 : Hp) (Q : VK) : Prop := ∃ (a C : Addr) (ws : List V), vs = .ref a :: ws ∧ ws.length ≤ 1000 ∧ OexC K C ∧ H1 a = some (exo a C none) ∧ Q .non H1
theorem i_tve (h : tr σ H (fun vs H1 => rVeI K vs H1 Q)) : tVeI K tr σ H Q := h
theorem i_tve1 {a C : Addr} {ws : List V} (T : OexC K C) (e : H a = some (exo a C none)) (l : ws.length ≤ 1000) (h : Q .non H) : rVeI K (.ref a :: ws) H Q := ⟨a, C, ws, rfl, l, T, e, h⟩
def rOst (K : PySem.W.Frag) (f : Str) (y x : V) (H2 : Hp) (P : Hp → Prop) : Prop := ∃ a C : Addr, x = .ref a ∧ OexC K C ∧ PySem.W.findIn K (.ref C) f = some none ∧
  ((H2 a = some (exo a C none) ∧ ∀ dx, H2 dx = none → dx ≠ a → P (upd (upd H2 dx (exd dx [(f, y)])) a (exo a C (some dx)))) ∨
    ∃ (dx : Addr) (fs : List (Str × V)), H2 a = some (exo a C (some dx)) ∧ H2 dx = some (exd dx fs) ∧ fs.length ≤ 900 ∧ P (upd H2 dx (exd dx ((f, y) :: fs))))
theorem i_ost {f : Str} (h : te σ H (fun y H1 => to σ H1 (fun x H2 => rOst K f y x H2 (fun H3 => D.nx σ H3)))) : tOst K f to te D σ H := h
theorem i_ost1 {f : Str} {a C : Addr} (T : OexC K C) (n : PySem.W.findIn K (.ref C) f = some none) (e : H a = some (exo a C none)) (h : ∀ dx, H dx = none → dx ≠ a → QH (upd (upd H dx (exd dx [(f, y)])) a (exo a C (some dx)))) : rOst K f y (.ref a) H QH :=
  ⟨a, C, rfl, T, n, .inl ⟨e, h⟩⟩
theorem i_fmtI {n : Int} (l : ZR.Sz 1900 n) (h : Q (.str (toString n)) H) : rFmt (.int n) H Q := .inr ⟨n, rfl, PySem.Flt.log2_lt_of (by decide) (l.mono (by decide)), h⟩
theorem i_js1 {ts : List TE} {acc z : Str} {QJ : Str → Hp → Prop} (l : (acc ++ z).length ≤ sizeLine) (h : tJs ts (acc ++ z) σ H QJ) : ∃ y : Str, V.str z = .str y ∧ (acc ++ y).length ≤ sizeLine ∧ tJs ts (acc ++ y) σ H QJ := ⟨z, rfl, l, h⟩
theorem bits_small {n : Int} {k : Nat} (h : ZR.Sz k n) : ¬ ((k : Int) < (Builtin.Int.intBits n : Nat)) := by
  have := (intBits_le_iff (m := k) (x := n)).mpr h
  omega
theorem text_small {n : Int} (h : ZR.Sz 1900 n) : (Str.ofString (toString n)).length ≤ 1901 := by
  have := int_text_length_le10 (k := 1900) (a := n) (by decide) (Nat.lt_of_lt_of_le (show n.natAbs < 2 ^ 1900 from h) (Nat.pow_le_pow_left (by decide) 1900))
  rw [PySem.ofString_length]
  exact this
/-! items by written places -/
theorem i_ix0 {p : Addr} {x0 : V} {xs : List V} (s : SqL K H p (x0 :: xs)) (h : Q x0 H) : rIxL K (.ref p) (.int 0) H Q := i_ixL (k := 0) s rfl h
theorem i_ix1 {p : Addr} {x0 x1 : V} {xs : List V} (s : SqL K H p (x0 :: x1 :: xs)) (h : Q x1 H) : rIxL K (.ref p) (.int 1) H Q := i_ixL (k := 1) s rfl h
theorem i_ix2 {p : Addr} {x0 x1 x2 : V} {xs : List V} (s : SqL K H p (x0 :: x1 :: x2 :: xs)) (h : Q x2 H) : rIxL K (.ref p) (.int 2) H Q := i_ixL (k := 2) s rfl h
theorem i_ixT {p : Addr} {xs : List V} {k : Nat} (s : SqT K H p xs) (e : xs[k]? = some v) (h : Q v H) : rIxT K (.ref p) (.int (k : Nat)) H Q := ⟨p, xs, _, v, rfl, rfl, s, atI_nat e, h⟩
theorem i_ixT0 {p : Addr} {x0 : V} {xs : List V} (s : SqT K H p (x0 :: xs)) (h : Q x0 H) : rIxT K (.ref p) (.int 0) H Q := i_ixT (k := 0) s rfl h
theorem i_neLI {p q : Addr} {ns ms : List Int} (h1 : SqL K H p (ns.map V.int)) (h2 : SqL K H q (ms.map V.int)) (h : Q (.bl (!decide (ns = ms))) H) : rNeD K (.ref p) (.ref q) H Q := by
  refine ⟨_, _, .lst h1 (dp_ints ns), .lst h2 (dp_ints ms), ?_, ?_, ?_⟩
  · exact shp ns
  · exact shp ms
  · have e : PyData.eqv (.list (ns.map PyData.int)) (.list (ms.map PyData.int)) = decide (ns = ms) := by
      show PyData.eqvAll _ _ = _
      exact eqv_ints ns ms
    rw [e]
    exact h
where shp (ns : List Int) : SeqAt.shaped (.list (ns.map PyData.int)) = true := by
        unfold SeqAt.shaped
        have d : ∀ ns : List Int, PyData.depthAll (ns.map PyData.int) ≤ 1 := by
          intro ns
          induction ns with
          | nil => decide
          | cons n ns ih => simp [PyData.depthAll, PyData.depth] at *; omega
        have := d ns
        have l := lay_ints ns
        simp [PyData.depth, PyData.canLay0]
        exact ⟨l, by omega⟩
end
end Z
namespace Z
open PySem PySem.Spec PyProof.Rows L2
/-! the same rules where the written part stands by its own letter -/
section
variable {X : Cx} {K : PySem.W.Frag} {e : Expr} {te : TE} {f : Str} {pos : Pos}
theorem k_fld (hK : X.K = K) (he : PE X e te) (hb : attributeBase e f X.env (eval e X.env) = eval e X.env) : PE X (.Attribute e f pos) (tFld K te f) := by
  subst hK
  exact pe_fld he hb
theorem k_ixL (hK : X.K = K) : IxR X (rIxL K) := by
  subst hK
  exact ix_list
theorem k_ixT (hK : X.K = K) : IxR X (rIxT K) := by
  subst hK
  exact ix_tup
theorem k_lst {es : List Expr} {k n : Nat} {t : TGs} (hK : X.K = K) (hc : X.calm = true) (h : PGs X es t) (hn : (assignEach es X.env).length = n := by rfl) (hst : (assignEach es X.env).findIdx? (·.1) = none := by rfl) : PG X (.Tuple es k pos) (gLst K n t) := by
  subst hK
  exact pg_lst hc h hn hst
theorem k_tup {es : List Expr} {k n : Nat} {t : TGs} (hK : X.K = K) (hc : X.calm = true) (h : PGs X es t) (hn : (assignEach es X.env).length = n := by rfl) (hst : (assignEach es X.env).findIdx? (·.1) = none := by rfl) : PG X (.Tuple es k pos) (gTup K n t) := by
  subst hK
  exact pg_tup hc h hn hst
theorem k_list {tg l : Expr} {tl : TE} (hK : X.K = K) (hl : PE X l tl) : PI X tg l (iList K tl) := by
  subst hK
  exact pi_list hl
theorem k_tupI {tg l : Expr} {tl : TE} (hK : X.K = K) (hl : PE X l tl) : PI X tg l (iTup K tl) := by
  subst hK
  exact pi_tup hl
theorem k_eqO {C : Addr} {k j : Nat} {sp : Sp} (hK : X.K = K) (c : CalO X.prog X.w X.K X.mg X.base C "__eq__" k sp) (hr : Room j X.A) (hj : k ≤ j := by decide) : OpR X (compareOp .Eq) (rOwnC K C sp) := by
  subst hK
  exact z_eqO c hr hj
theorem k_neO {C : Addr} {k j : Nat} {sp : Sp} (hK : X.K = K) (c : CalO X.prog X.w X.K X.mg X.base C "__eq__" k sp) (n : NeC X.K C) (hr : Room j X.A) (hj : k + 1 ≤ j := by decide) : OpR X (compareOp .NotEq) (rOwnN K C sp) := by
  subst hK
  exact z_neO c n hr hj
theorem k_eqD (hK : X.K = K) (hu : X.A.units + 64 < cLine) : OpR X (compareOp .Eq) (rEqD K) := by
  subst hK
  exact op_eqD hu
theorem k_neD (hK : X.K = K) (hu : X.A.units + 64 < cLine) : OpR X (compareOp .NotEq) (rNeD K) := by
  subst hK
  exact op_neD hu
/-- len of a list or a tuple -/
def rLen (K : PySem.W.Frag) : List V → Hp → VK → Prop := fun xs H Q => ∃ p ys, xs = [.ref p] ∧ (SqL K H p ys ∨ SqT K H p ys) ∧ Q (.int ys.length) H
theorem k_len (hK : X.K = K) : CallR X (.builtin "len") (rLen K) := by
  subst hK
  exact call_len_seq
theorem i_lenL {p : Addr} {xs : List V} {H : Hp} {Q : VK} (s : SqL K H p xs) (h : Q (.int xs.length) H) : rLen K [.ref p] H Q := ⟨p, xs, rfl, .inl s, h⟩
theorem i_lenT {p : Addr} {xs : List V} {H : Hp} {Q : VK} (s : SqT K H p xs) (h : Q (.int xs.length) H) : rLen K [.ref p] H Q := ⟨p, xs, rfl, .inr s, h⟩
theorem k_isi (hK : X.K = K) : CallR X (.builtin "isinstance") (rIsi K) := by
  subst hK
  exact call_isi
end
section
variable {K : PySem.W.Frag} {σ : L2.St} {H : Hp} {D : Ends} {Q : VK} {te : TE}
theorem i_was {c cls : Value} {i : Nat} {ts : Addr → Value → Option Addr → TS} {Wout : WX} {d : Option Addr} (hx : PySem.W.exmOne K cls c = some true)
    (h : ∀ a, H a = none → ts a cls d { nx := fun σ' H' => D.nx (σ'.set i none) H', rt := D.rt, bk := fun σ' H' => D.bk (σ'.set i none) H', ct := fun σ' H' => D.ct (σ'.set i none) H' } (σ.set i (some (.ref a))) H) :
    wAs K c i ts Wout D cls d σ H := ⟨true, hx, fun _ => h, fun q => by cases q⟩
def rXf (a : Addr) (cls : Value) (d : Option Addr) (C : Addr) (f : Str) (x : V) (H1 : Hp) (Q : VK) : Prop := x = .ref a ∧ cls = .ref C ∧ ∃ (dd : Addr) (fs : List (Str × V)) (v : V), d = some dd ∧ H1 dd = some (.xd fs) ∧ fs.lookup f = some v ∧ Q v H1
theorem i_xf {a C : Addr} {cls : Value} {d : Option Addr} {f : Str} (h : te σ H (fun x H1 => rXf a cls d C f x H1 Q)) : tXf a cls d C f te σ H Q := h
theorem i_xf1 {a C dd : Addr} {f : Str} {v : V} (e : H dd = some (.xd [(f, v)])) (h : Q v H) : rXf a (.ref C) (some dd) C f (.ref a) H Q :=
  ⟨rfl, rfl, dd, _, v, rfl, e, by simp [List.lookup], h⟩
end
end Z
namespace Z
open PySem PySem.Spec PyProof.Rows L2
/-! facts put together -/
theorem exm_in {K : PySem.W.Frag} {C D : Addr} {b : Bool} (e : PySem.W.subIn K (.ref C) (.type "BaseException") = some true) (i : PySem.W.isClsIn K C = true) (ty : PySem.W.typeIn K (.ref C) = some (.type "type")) (s : PySem.W.subIn K (.ref D) (.ref C) = some b) :
    PySem.W.exmOne K (.ref D) (.ref C) = some b := by
  unfold PySem.W.exmOne
  rw [if_pos (by rw [e]; rfl)]
  unfold PySem.W.kitCls
  have hc : (PySem.W.clsIn K C).isSome = true := i
  show (if ((PySem.W.clsIn K C).isSome && PySem.W.typeIn K (.ref C) == some (.type "type")) = true then PySem.W.subIn K (.ref D) (.ref C) else none) = some b
  rw [if_pos, s]
  rw [hc, ty]
  simp
theorem refs_ve (T : Addr) : PySem.HandSPX.refsVE [.ref T, .type "ValueError", .type "Exception", .type "BaseException", .type "object"] = true := by
  show PySem.HandSPX.refsVE [.type "ValueError", .type "Exception", .type "BaseException", .type "object"] = true
  decide +kernel
theorem kit_self {K : PySem.W.Frag} {C : Addr} : PySem.W.kitOne K (.ref C) (.ref C) = some true := by
  unfold PySem.W.kitOne
  rw [if_pos (by simp)]
theorem kit_c {K : PySem.W.Frag} {C : Addr} {t : Value} {b : Bool} (i : PySem.W.isClsIn K C = true) (ty : PySem.W.typeIn K (.ref C) = some (.type "type")) (e : PySem.W.subIn K t (.ref C) = some b) (hne : (t == Value.ref C) = false) : PySem.W.kitOne K t (.ref C) = some b := by
  unfold PySem.W.kitOne
  rw [if_neg (by rw [hne]; simp)]
  unfold PySem.W.kitCls
  have hc : (PySem.W.clsIn K C).isSome = true := i
  show (if ((PySem.W.clsIn K C).isSome && PySem.W.typeIn K (.ref C) == some (.type "type")) = true then PySem.W.subIn K t (.ref C) else none) = some b
  rw [if_pos, e]
  rw [hc, ty]
  simp

section
variable {P : Program} {w : World} {K : PySem.W.Frag} {mg : Str → Option Value} {base h : Heap} {f C : Addr} {fd : FuncData} {ps : List Str} {x : Str} {k : Nat} {sp : Sp}
theorem mk_cal (X : K.In h) (G : h.Ns mainGlobals mg) (a : PySem.W.nsIn K mainGlobals x = some (some (.ref f))) (kk : PySem.W.keepIn K (.ref f) = true) (F : FnOk P w K mg base (L2.CX P w) k f fd ps sp) (b : Binds K fd ps []) : Cal P w K mg base x k sp :=
  ⟨f, PySem.W.mg_of X G a, kk, fnR_of F b⟩
theorem mk_calM (m : Meth K C x f) (F : FnOk P w K mg base (L2.CX P w) k f fd ps sp) (b : Binds K fd ps []) : CalM P w K mg base C x k sp := ⟨f, m, fnR_of F b⟩
theorem mk_calI (X : K.In h) (G : h.Ns mainGlobals mg) (a : PySem.W.nsIn K mainGlobals x = some (some (.ref C))) (m : Mk K C f) (F : FnOk P w K mg base (L2.CX P w) k f fd ps sp) (b : Binds K fd ps []) : CalI P w K mg base x C k sp :=
  ⟨PySem.W.mg_of X G a, f, m, fnR_of F b⟩
theorem mk_calO (a : PySem.W.findIn K (.ref C) x = some (some (.ref f))) (i : PySem.W.isFn K (.ref f) = true) (s : PySem.W.selfFirst K C = true) (F : FnOk P w K mg base (L2.CX P w) k f fd ps sp) (b : Binds K fd ps []) : CalO P w K mg base C x k sp :=
  ⟨f, ⟨a, i⟩, s, fnR_of F b⟩
theorem mk_calK {mc : Value} {p : Addr} (r : ClX.CRead K C mc) (m : ClX.CMet K C mc x p f) (F : FnOk P w K mg base (L2.CX P w) k f fd ps sp) (b : Binds K fd ps []) : CalK P w K mg base C x k sp := ⟨mc, p, f, r, m, fnR_of F b⟩
theorem mk_calX (X : K.In h) (G : h.Ns mainGlobals mg) (a : PySem.W.nsIn K mainGlobals x = some (some (.ref C))) (o : OexC K C) (i : PySem.W.findIn K (.ref C) "__init__" = some (some (.ref f))) (t : PySem.W.typeIn K (.ref f) = some (.type "function"))
    (F : FnOk P w K mg base (L2.CX P w) k f fd ps sp) (b : Binds K fd ps []) : CalX P w K mg base x C k ps sp := ⟨PySem.W.mg_of X G a, o, f, fd, i, t, F, b⟩
theorem mk_calT {mc : Value} (X : K.In h) (G : h.Ns mainGlobals mg) (a : PySem.W.nsIn K mainGlobals x = some (some (.ref C))) (r : ClX.CRead K C mc) (v : PySem.W.findCls K (.ref C) mc "__init__" = some (.val (.builtin "ValueError.__init__"))) : CalT K mg x :=
  ⟨C, mc, PySem.W.mg_of X G a, r, v⟩
end
end Z

set_option Elab.async false
set_option linter.all false
set_option maxRecDepth 100000
set_option maxHeartbeats 4000000
/-! texts: str(x) of own things, s * n, comprehensions over texts -/
namespace Z
open PySem PySem.Spec PyProof.Rows L2
section
variable {X : Cx} {k j : Nat} {f C : Addr} {sp : Sp}
def strO (Q : VK) : VK := fun v H' => ∃ z, v = .str z ∧ Q (.str z) H'
/-- str(x), x an instance with its own __str__ -/
def rStrOwn (C : Addr) (sp : Sp) : List V → Hp → VK → Prop := fun xs H Q => ∃ a dx fs, xs = [.ref a] ∧ H a = some (.ins C dx fs) ∧
  sp [.ref a] H (strO Q) (fun _ _ _ => False)
theorem call_strOwn (F : FnR X.prog X.w X.K X.mg X.base (L2.CX X.prog X.w) k f sp) (hr : Room (k + 2) X.A) (S : Spc X.K C "__str__" f) :
    CallR X (.type "str") (rStrOwn C sp) := by
  intro pins s σ H xs us Q I r h
  obtain ⟨a, dx, fs, rfl, ea, h⟩ := h
  obtain rfl := Vals.ref1 r
  obtain ⟨ox, od, Ja⟩ := instAt I ea
  have hr1 : Room k X.A.in1.in1 := (hr.in1).in1
  refine PySem.W.kso_call (f := f) hr1.units0 I.kIn Ja S.at_ S.fn ?_
  refine wpAny_call (codeAny_mono (F X.A.in1.in1 X.stack s H [.ref a] [.ref a] _ (fun _ _ _ => False) hr1 I.env0.in1.in1 (.cons rfl .nil) h) fun q s' hq => ?_)
  rcases q with e | fl
  · exact (cxN hq).elim
  rcases fl with _ | _ | _ | u'
  · exact False.elim hq
  · exact False.elim hq
  · exact False.elim hq
  obtain ⟨v', H', J', rv, z, ev, q⟩ := I.after hq
  subst ev
  obtain ⟨t, rfl⟩ := rv
  exact ⟨.str z, H', J', ⟨t, rfl⟩, q⟩
theorem z_strO (c : CalO X.prog X.w X.K X.mg X.base C "__str__" k sp) (hr : Room j X.A) (hj : k + 2 ≤ j := by decide) : CallR X (.type "str") (rStrOwn C sp) := by
  obtain ⟨f, S, sf, F⟩ := c
  exact call_strOwn F (hr.mono hj) S
/-- s * n -/
def rMulS : R2 := fun x y H Q => ∃ (z : Str) (n : Int), x = .str z ∧ y = .int n ∧ 2 ≤ n ∧ n ≤ 1000 ∧ z.length ≤ 1000 ∧ Q (.str (Txt.mul z n)) H
theorem op_mulS : OpR X (binaryOp .Mult) rMulS := by
  intro pins s σ H x y v u Q I rx ry h
  obtain ⟨z, n, rfl, rfl, h2, hn, hz, q⟩ := h
  obtain ⟨t, rfl⟩ := rx
  obtain ⟨u', rfl⟩ := ry
  have hlen : z.length * n.toNat ≤ 1000000 := by
    have : n.toNat ≤ 1000 := by omega
    exact Nat.le_trans (Nat.mul_le_mul hz this) (by decide)
  refine PySem.SB.mul ⟨?_, ?_, ?_⟩ fun t' k => ⟨.str _, H, I.tok _, ⟨_, rfl⟩, q⟩
  · rw [decide_eq_false (by omega), decide_eq_false (by omega)]
    rfl
  · intro _ _ hgt
    have : (2 ^ 63 - 1 : Int) / n ≥ 1000 := Int.le_ediv_of_mul_le (by omega) (by omega)
    omega
  · intro _ _
    unfold PySem.Builtin.Str.tooLong
    rw [sizeLine_eq]
    exact decide_eq_false (by omega)
theorem i_mulS {z : Str} {n : Int} {H : Hp} {Q : VK} (h2 : 2 ≤ n) (hn : n ≤ 1000) (hz : z.length ≤ 1000) (h : Q (.str (Txt.mul z n)) H) : rMulS (.str z) (.int n) H Q := ⟨z, n, rfl, rfl, h2, hn, hz, h⟩
end
/-! ### comprehensions over texts -/
section
variable {K : PySem.W.Frag} {σ : L2.St} {H : Hp} {D : Ends} {te : TE} {tt : TT} {g : TG} {Q : VK}
def rLcS (g : TG) (tt : TT) (te : TE) (vs : List Nat) (σ : L2.St) (Q : VK) (x : V) (H1 : Hp) : Prop := ∃ z, x = .str z ∧ ∀ D, H1 D = none → ∃ W : Nat → Nat → Hp → Prop, (∃ m, W 0 m (upd H1 D (.lst []))) ∧ ∀ i m H, W i m H →
  ((Its z).stop i H ∧ Q (.ref D) H) ∨ ((Its z).go i H ∧ ∃ Nx : Hp → Prop, (∀ H', Nx H' → ∃ m', m' < m ∧ W (i + 1) m' H') ∧ ∀ x H', (Its z).yld i H x H' → g x (wipe σ vs) H' fun σ2 H2 => wipe σ2 vs = wipe σ vs ∧ tt σ2 H2 fun b H3 =>
    if b = true then te σ2 H3 fun y H4 => ∃ acc, H4 D = some (.lst acc) ∧ acc.length < sizeLine ∧ Nx (upd H4 D (.lst (acc ++ [y]))) else Nx H3)
theorem i_lcS0 {tl : TE} {vs : List Nat} (h : tl σ H (fun x H1 => rLcS g tt te vs σ Q x H1)) : tLc (iStr tl) g tt te vs σ H Q := h
theorem i_lcS {z : Str} {vs : List Nat} (Pv : Nat → List V → Hp → Prop) (h0 : ∀ D H', H D = none → Same H H' → H' D = some (.lst []) → (∀ b, b ≠ D → H' b = H b) → Pv 0 [] H')
    (hs : ∀ i c D ys H1, H D = none → (TL.tl z)[i]? = some c → H1 D = some (.lst ys) → Pv i ys H1 → g (.str ⟨#[c]⟩) (wipe σ vs) H1 fun σ2 H2 => wipe σ2 vs = wipe σ vs ∧ tt σ2 H2 fun b H3 => if b = true then te σ2 H3 fun y H4 => rLcE D Pv i y H4 else LcS D Pv (i + 1) H3)
    (hd : ∀ D ys H1, H D = none → H1 D = some (.lst ys) → Pv (TL.tl z).length ys H1 → Q (.ref D) H1) : rLcS g tt te vs σ Q (.str z) H := by
  refine ⟨z, rfl, fun D hD => ?_⟩
  have hsz : z.cps.size = (TL.tl z).length := (Array.length_toList).symm
  refine ⟨fun i m H' => m = z.cps.size - i ∧ i ≤ z.cps.size ∧ LcS D Pv i H', ⟨z.cps.size, by simp, Nat.zero_le _, [], upd_same, h0 D _ hD (fun b o e => by rw [upd_ne (ne_of_none e hD)]; exact e) upd_same (fun b hb => upd_ne hb)⟩, ?_⟩
  rintro i m H' ⟨rfl, hi, ys, hD', p⟩
  by_cases hlt : i < z.cps.size
  · refine .inr ⟨hlt, LcS D Pv (i + 1), fun H'' p' => ⟨z.cps.size - (i + 1), by omega, rfl, hlt, p'⟩, fun x H'' y => ?_⟩
    obtain ⟨e, c, hc, rfl⟩ := y
    subst e
    refine hs i c D ys _ hD ?_ hD' p
    show z.cps.toList[i]? = some c
    rw [Array.getElem?_toList]
    exact hc
  · have e : i = z.cps.size := by omega
    refine .inl ⟨Nat.le_of_eq e.symm, hd D ys H' hD hD' ?_⟩
    rw [← hsz, ← e]
    exact p
end
end Z
namespace Z
open PySem PySem.Spec PyProof.Rows L2
section
variable {K : PySem.W.Frag} {σ : L2.St} {H : Hp} {D : Ends} {te ta tb tc : TE} {tlo thi : TO} {QO : Option Int → Hp → Prop} {Q : VK} {z : Str}
theorem i_chain {r r' : R2} (h : ta σ H (fun x H1 => tb σ H1 (fun y H2 => r x y H2 (fun v H3 => ∃ k, v = .bl k ∧ (if k = true then tc σ H3 (fun w' H4 => r' y w' H4 Q) else Q (.bl false) H3))))) : tChain r r' ta tb tc σ H Q := h
theorem i_sl {r : V → Option Int → Option Int → Hp → VK → Prop} (h : te σ H (fun x H1 => tlo σ H1 (fun l H2 => thi σ H2 (fun u H3 => r x l u H3 Q)))) : tSl r te tlo thi σ H Q := h
theorem i_noPart (h : QO none H) : tNoPart σ H QO := h
def rPart (x : V) (H1 : Hp) (QO : Option Int → Hp → Prop) : Prop := ∃ i, x = .int i ∧ QO (some i) H1
theorem i_part (h : te σ H (fun x H1 => rPart x H1 QO)) : tPart te σ H QO := h
theorem i_part1 {i : Int} (h : QO (some i) H) : rPart (.int i) H QO := ⟨i, rfl, h⟩
theorem i_slS {lo hi : Option Int} (hz : z.length ≤ 100000) (h : Q (.str (cutS z lo hi)) H) : rSlS (.str z) lo hi H Q := ⟨z, rfl, Nat.le_trans hz (by decide), h⟩
theorem i_slL {lo hi : Option Int} {a : Addr} {xs ys : List V} (s : SqL K H a xs) (e : cutV xs lo hi = ys) (h : ∀ p H', H p = none → Same H H' → H' p = some (.lst ys) → (∀ b, b ≠ p → H' b = H b) → Q (.ref p) H') : rSlL K (.ref a) lo hi H Q := by
  subst e
  exact ⟨a, xs, rfl, s, fun p hp => h p _ hp (fun b o e => by rw [upd_ne (ne_of_none e hp)]; exact e) upd_same (fun b hb => upd_ne hb)⟩
theorem i_ixS {k : Nat} {c : Nat} (hz : z.length ≤ 100000) (e : (TL.tl z)[k]? = some c) (h : Q (.str ⟨#[c]⟩) H) : rIxS (.str z) (.int (k : Nat)) H Q := ⟨z, _, c, rfl, rfl, Nat.le_trans hz (by decide), atI_nat e, h⟩
theorem i_ixS0 {c : Nat} {r : List Nat} (hz : z.length ≤ 100000) (e : TL.tl z = c :: r) (h : Q (.str ⟨#[c]⟩) H) : rIxS (.str z) (.int 0) H Q := i_ixS (k := 0) hz (by rw [e]; rfl) h
def rRevL (K : PySem.W.Frag) (x : V) (H1 : Hp) (Q : VK) : Prop := ∃ a xs, x = .ref a ∧ SqL K H1 a xs ∧ ∀ p, H1 p = none → Q (.ref p) (upd H1 p (.lst xs.reverse))
theorem i_revL (h : te σ H (fun x H1 => rRevL K x H1 Q)) : tRevL K te σ H Q := h
theorem i_revL1 {a : Addr} {xs : List V} (s : SqL K H a xs) (h : ∀ p H', H p = none → Same H H' → H' p = some (.lst xs.reverse) → (∀ b, b ≠ p → H' b = H b) → Q (.ref p) H') : rRevL K (.ref a) H Q :=
  ⟨a, xs, rfl, s, fun p hp => h p _ hp (fun b o e => by rw [upd_ne (ne_of_none e hp)]; exact e) upd_same (fun b hb => upd_ne hb)⟩
theorem tl_from (z : Str) (k : Nat) : TL.tl (cutS z (some (k : Int)) none) = (TL.tl z).drop k := by
  have hl := TL.len_tl z
  show ((TL.tl z).drop (HT.sIx z.length 0 (some (k : Int)))).take (HT.sIx z.length z.length none - HT.sIx z.length 0 (some (k : Int))) = _
  rw [HT.sIx_nat, HT.sIx_none, hl, List.take_of_length_le (by rw [List.length_drop]; omega)]
  by_cases h : k ≤ (TL.tl z).length
  · rw [Nat.min_eq_left h]
  · rw [Nat.min_eq_right (by omega), List.drop_length, List.drop_of_length_le (by omega)]
theorem tl_upto (z : Str) (k : Nat) : TL.tl (cutS z none (some (k : Int))) = (TL.tl z).take k := by
  have hl := TL.len_tl z
  show ((TL.tl z).drop (HT.sIx z.length 0 none)).take (HT.sIx z.length z.length (some (k : Int)) - HT.sIx z.length 0 none) = _
  rw [HT.sIx_nat, HT.sIx_none, hl, List.drop_zero, Nat.sub_zero, ← List.take_take, List.take_length]
end
end Z
namespace Z
open PySem PySem.Spec PyProof.Rows L2
section
variable {K : PySem.W.Frag} {H : Hp} {Q : VK}
theorem i_cat {l b : Addr} {xs zs : List V} (h1 : H l = some (.lst xs)) (h2 : H b = some (.lst zs)) (hl : xs.length + zs.length ≤ 100000) (h : ∀ p H', H p = none → Same H H' → H' p = some (.lst (xs ++ zs)) → (∀ b, b ≠ p → H' b = H b) → Q (.ref p) H') : rCat (.ref l) (.ref b) H Q :=
  ⟨l, b, xs, zs, rfl, rfl, h1, h2, Nat.le_trans hl (by decide), fun p hp => h p _ hp (fun b o e => by rw [upd_ne (ne_of_none e hp)]; exact e) upd_same (fun b hb => upd_ne hb)⟩
theorem i_newStrs {ys : List Str} (h : ∀ p H', H p = none → Same H H' → H' p = some (.lst (ys.map V.str)) → (∀ b, b ≠ p → H' b = H b) → Q (.ref p) H') : rNewStrs ys H Q :=
  fun p hp => h p _ hp (fun b o e => by rw [upd_ne (ne_of_none e hp)]; exact e) upd_same (fun b hb => upd_ne hb)
end
end Z
namespace Z
open PySem PySem.Spec PyProof.Rows L2
theorem ixN_n {n j : Nat} (hj : j < n) : ixN n (j : Int) = some j := by
  unfold ixN
  rw [if_pos (by omega), if_pos (by omega)]
  simp
/-! lists of ints and texts, the same ones -/
def sv : Int ⊕ Str → V
  | .inl i => .int i
  | .inr z => .str z
def sd : Int ⊕ Str → PyData
  | .inl i => .int i
  | .inr z => .str z
section
variable {K : PySem.W.Frag} {H : Hp} {Q : VK} {p q : Addr}
theorem dp_sv : ∀ ls : List (Int ⊕ Str), DpAll K H (ls.map sv) (ls.map sd)
  | [] => .nil
  | .inl i :: ls => .cons (.int i) (dp_sv ls)
  | .inr z :: ls => .cons (.str z) (dp_sv ls)
theorem eqv_sd : ∀ ls : List (Int ⊕ Str), PyData.eqvAll (ls.map sd) (ls.map sd) = true
  | [] => rfl
  | .inl i :: ls => by
    show (PyData.eqv (.int i) (.int i) && PyData.eqvAll _ _) = true
    rw [eqv_sd ls, Bool.and_true]
    show (i == i) = true
    simp
  | .inr z :: ls => by
    show (PyData.eqv (.str z) (.str z) && PyData.eqvAll _ _) = true
    rw [eqv_sd ls, Bool.and_true]
    show (z == z) = true
    simp
theorem shaped_sd (ls : List (Int ⊕ Str)) (hs : ∀ z, .inr z ∈ ls → PyData.strOk z = true) : SeqAt.shaped (.list (ls.map sd)) = true := by
  unfold SeqAt.shaped
  have d : ∀ ls : List (Int ⊕ Str), PyData.depthAll (ls.map sd) ≤ 1 := by
    intro ls
    induction ls with
    | nil => decide
    | cons n ns ih => cases n <;> simp [PyData.depthAll, PyData.depth, sd] at * <;> omega
  have l : ∀ ls : List (Int ⊕ Str), (∀ z, .inr z ∈ ls → PyData.strOk z = true) → PyData.canLayAll0 (ls.map sd) = true := by
    intro ls
    induction ls with
    | nil => intro _; rfl
    | cons n ns ih =>
      intro hs
      have ih2 := ih fun z hz => hs z (List.mem_cons_of_mem _ hz)
      cases n with
      | inl i =>
        simp [PyData.canLayAll0, PyData.canLay0, sd] at *
        exact ih2
      | inr z =>
        have := hs z List.mem_cons_self
        simp [PyData.canLayAll0, PyData.canLay0, sd] at *
        exact ⟨this, ih2⟩
  have := d ls
  simp [PyData.depth, PyData.canLay0]
  exact ⟨l ls hs, by omega⟩
theorem i_neSame {ls : List (Int ⊕ Str)} (hs : ∀ z, .inr z ∈ ls → PyData.strOk z = true) (h1 : H p = some (.lst (ls.map sv))) (h2 : H q = some (.lst (ls.map sv))) (h : Q (.bl false) H) : rNeD K (.ref p) (.ref q) H Q := by
  refine ⟨_, _, .lst (SqL.of h1) (dp_sv ls), .lst (SqL.of h2) (dp_sv ls), shaped_sd ls hs, shaped_sd ls hs, ?_⟩
  have e : PyData.eqv (.list (ls.map sd)) (.list (ls.map sd)) = true := eqv_sd ls
  rw [e]
  exact h
theorem i_eqSame {ls : List (Int ⊕ Str)} (hs : ∀ z, .inr z ∈ ls → PyData.strOk z = true) (h1 : H p = some (.lst (ls.map sv))) (h2 : H q = some (.lst (ls.map sv))) (h : Q (.bl true) H) : rEqD K (.ref p) (.ref q) H Q := by
  refine ⟨_, _, .lst (SqL.of h1) (dp_sv ls), .lst (SqL.of h2) (dp_sv ls), shaped_sd ls hs, shaped_sd ls hs, ?_⟩
  have e : PyData.eqv (.list (ls.map sd)) (.list (ls.map sd)) = true := eqv_sd ls
  rw [e]
  exact h
end
end Z
namespace Z
open PySem PySem.Spec PyProof.Rows L2
/-- what stands at the end of both branches -/
theorem i_cap {t u : TS} {c : Bool} {D : Ends} {σ : L2.St} {H : Hp} (P : L2.St → Hp → Prop) (hP : ∀ σ H, P σ H → D.nx σ H) (k : (∀ σ H, P σ H → D.nx σ H) → if c = true then t D σ H else u D σ H) : if c = true then t D σ H else u D σ H := k hP
end Z

set_option Elab.async false
set_option linter.all false
set_option maxRecDepth 100000
set_option maxHeartbeats 4000000
/-! texts of numbers, texts of ratios: the mathematics -/
namespace ZS
open PySem TL PySem.NumText
def dig (c : Nat) : Bool := decide (48 ≤ c ∧ c ≤ 57)
/-- the digits of a number from 1 on, at most thirty -/
def posL (l : List Nat) : Bool := decide (1 ≤ l.length ∧ l.length ≤ 30) && (!(l.head? == some 48) && l.all dig)
def sgnL (l : List Nat) : Bool := if l.head? = some 45 then posL l.tail else (decide (l = [48]) || posL l)
def iv (z : Str) : Int := (intText? z).getD 0
theorem posL_iff {l : List Nat} : posL l = true ↔ 1 ≤ l.length ∧ l.length ≤ 30 ∧ l.head? ≠ some 48 ∧ AllDigits l := by
  unfold posL AllDigits
  simp [dig, and_assoc]
theorem val_lt : ∀ (l : List Nat) (a : Nat), AllDigits l → l.foldl (fun acc c => acc * 10 + (c - 48)) a < (a + 1) * 10 ^ l.length
  | [], a, _ => by simp
  | c :: l, a, h => by
    rw [List.foldl_cons]
    have h1 := val_lt l (a * 10 + (c - 48)) h.tail
    have hc := h.head
    refine Nat.lt_of_lt_of_le h1 ?_
    rw [List.length_cons, Nat.pow_succ, Nat.mul_comm (10 ^ l.length) 10, ← Nat.mul_assoc]
    exact Nat.mul_le_mul_right _ (by omega)
theorem val_ge : ∀ (l : List Nat) (a : Nat), a ≤ l.foldl (fun acc c => acc * 10 + (c - 48)) a
  | [], a => Nat.le_refl _
  | c :: l, a => by
    rw [List.foldl_cons]
    exact Nat.le_trans (by omega) (val_ge l (a * 10 + (c - 48)))
theorem digits_lt {l : List Nat} (h : AllDigits l) (hl : l.length ≤ 30) : digitsVal l < 10 ^ 30 := by
  have := val_lt l 0 h
  unfold digitsVal
  rw [Nat.zero_add, Nat.one_mul] at this
  exact Nat.lt_of_lt_of_le this (Nat.pow_le_pow_right (by decide) hl)
theorem digits_pos {l : List Nat} (h : AllDigits l) (h1 : 1 ≤ l.length) (h0 : l.head? ≠ some 48) : 1 ≤ digitsVal l := by
  cases l with
  | nil => simp at h1
  | cons c l =>
    unfold digitsVal
    rw [List.foldl_cons]
    refine Nat.le_trans ?_ (val_ge l _)
    have := h.head
    simp at h0
    omega
theorem len_ne {l : List Nat} (h : 1 ≤ l.length) : l ≠ [] := by
  rintro rfl
  simp at h
theorem pos_int {z : Str} (h : posL (tl z) = true) : ∃ n : Nat, intText? z = some (n : Int) ∧ 1 ≤ n ∧ n < 10 ^ 30 ∧ z.length ≤ 30 := by
  obtain ⟨h1, h2, h3, h4⟩ := posL_iff.mp h
  have hl : z.length ≤ 30 := by rw [len_tl]; exact h2
  exact ⟨digitsVal (tl z), intText_digits h4 (len_ne h1) (by omega), digits_pos h4 h1 h3, digits_lt h4 h2, hl⟩
theorem sgn_cases {l : List Nat} (h : sgnL l = true) : (∃ r, l = 45 :: r ∧ posL r = true) ∨ l = [48] ∨ (posL l = true ∧ l.head? ≠ some 45) := by
  unfold sgnL at h
  by_cases e : l.head? = some 45
  · rw [if_pos e] at h
    cases l with
    | nil => simp at e
    | cons c r =>
      simp at e
      subst e
      exact .inl ⟨r, rfl, h⟩
  · rw [if_neg e] at h
    rcases Bool.or_eq_true_iff.mp h with h | h
    · exact .inr (.inl (of_decide_eq_true h))
    · exact .inr (.inr ⟨h, e⟩)
theorem sgn_int {z : Str} (h : sgnL (tl z) = true) : ∃ n : Int, intText? z = some n ∧ n.natAbs < 10 ^ 30 ∧ z.length ≤ 31 ∧ (1 ≤ n ↔ posL (tl z) = true) := by
  have hl := len_tl z
  rcases sgn_cases h with ⟨r, e, hp⟩ | e | ⟨hp, hne⟩
  · obtain ⟨h1, h2, h3, h4⟩ := posL_iff.mp hp
    have e2 : z.length = r.length + 1 := by rw [hl, e]; rfl
    refine ⟨_, intText_neg e h4 (len_ne h1) (by omega), ?_, by omega, ?_⟩
    · rw [Int.natAbs_neg]
      exact digits_lt h4 h2
    · constructor
      · intro hn
        have := digits_pos h4 h1 h3
        omega
      · intro hp2
        have := (posL_iff.mp hp2).2.2.2 45 (by rw [e]; exact List.mem_cons_self)
        omega
  · have ez : z.length = 1 := by rw [hl, e]; rfl
    have ed : AllDigits (tl z) := by
      rw [e]
      intro c hc
      obtain rfl := List.mem_singleton.mp hc
      decide
    refine ⟨_, intText_digits ed (by rw [show z.cps.toList = [48] from e]; simp) (by omega), ?_, by omega, ?_⟩
    · rw [show z.cps.toList = [48] from e]
      decide
    · rw [show z.cps.toList = [48] from e]
      constructor
      · intro hn
        exact absurd hn (by decide)
      · intro hp
        have := (posL_iff.mp (e ▸ hp)).2.2.1
        exact absurd rfl this
  · obtain ⟨n, hn, h1, h2, h3⟩ := pos_int hp
    exact ⟨n, hn, by omega, by omega, fun _ => hp, fun _ => by omega⟩
theorem iv_of {z : Str} {n : Int} (h : intText? z = some n) : iv z = n := by
  unfold iv
  rw [h]
  rfl
/-! ### the text of a number -/
def T (n : Int) : Str := Str.ofString (toString n)
theorem tl_pos (n : Nat) : tl (T (n : Int)) = numL n := tl_num n
theorem tl_neg {n : Nat} (h : 0 < n) : tl (T (-(n : Int))) = 45 :: numL n := by
  obtain ⟨m, rfl⟩ : ∃ m, n = m + 1 := ⟨n - 1, by omega⟩
  unfold T
  rw [tl_ofString]
  show ("-" ++ Nat.repr (m + 1)).toList.map Char.toNat = _
  rw [String.toList_append, List.map_append, Nat.toList_repr]
  rfl
theorem num_head : ∀ n : Nat, 1 ≤ n → (numL n).head? ≠ some 48 := by
  intro n
  induction n using Nat.strongRecOn with
  | ind n ih =>
    intro h
    by_cases h10 : n < 10
    · rw [numL_lt h10]
      simp
      omega
    · rw [numL_step (by omega)]
      have hne := numL_ne (n / 10)
      have := ih (n / 10) (by omega) (by omega)
      cases e : numL (n / 10) with
      | nil => exact absurd e hne
      | cons c r =>
        rw [e] at this
        simpa using this
theorem num_pos {n : Nat} (h : 1 ≤ n) (hn : n < 10 ^ 30) : posL (numL n) = true := by
  refine posL_iff.mpr ⟨?_, numL_len (by decide) hn, num_head n h, numL_digits n⟩
  have := numL_ne n
  cases e : numL n with
  | nil => exact absurd e this
  | cons c r => simp
theorem pos_head {l : List Nat} (h : posL l = true) : l.head? ≠ some 45 := by
  intro e
  cases l with
  | nil => simp at e
  | cons c r =>
    simp at e
    subst e
    have := (posL_iff.mp h).2.2.2.head
    omega
theorem T_sgn {n : Int} (h : n.natAbs < 10 ^ 30) : sgnL (tl (T n)) = true := by
  rcases Int.lt_trichotomy n 0 with hn | rfl | hn
  · obtain ⟨m, rfl⟩ : ∃ m : Nat, n = -(m : Int) := ⟨n.natAbs, by omega⟩
    rw [tl_neg (by omega)]
    show (if (45 :: numL m).head? = some 45 then posL (45 :: numL m).tail else _) = true
    rw [if_pos (show (45 :: numL m).head? = some 45 from rfl)]
    exact num_pos (by omega) (by omega)
  · decide +kernel
  · obtain ⟨m, rfl⟩ : ∃ m : Nat, n = (m : Int) := ⟨n.natAbs, by omega⟩
    rw [tl_pos]
    have hp := num_pos (n := m) (by omega) (by omega)
    unfold sgnL
    rw [if_neg (pos_head hp), hp]
    simp
theorem T_pos {n : Int} (h1 : 1 ≤ n) (h : n < 10 ^ 30) : posL (tl (T n)) = true := by
  obtain ⟨m, rfl⟩ : ∃ m : Nat, n = (m : Int) := ⟨n.natAbs, by omega⟩
  rw [tl_pos]
  exact num_pos (by omega) (by omega)
theorem T_int {n : Int} (h : n.natAbs < 10 ^ 30) : intText? (T n) = some n := by
  rcases Int.lt_trichotomy n 0 with hn | rfl | hn
  · obtain ⟨m, rfl⟩ : ∃ m : Nat, n = -(m : Int) := ⟨n.natAbs, by omega⟩
    have e := tl_neg (n := m) (by omega)
    have hl := numL_len (n := m) (k := 30) (by decide) (by omega)
    have h3 := intText_neg (x := T (-(m : Int))) e (numL_digits m) (numL_ne m) (by rw [len_tl, e, List.length_cons]; omega)
    rw [numL_val] at h3
    exact h3
  · decide +kernel
  · obtain ⟨m, rfl⟩ : ∃ m : Nat, n = (m : Int) := ⟨n.natAbs, by omega⟩
    have hl := numL_len (n := m) (k := 30) (by decide) (by omega)
    have h3 := intText_digits (x := T (m : Int)) (by rw [show (T (m : Int)).cps.toList = numL m from tl_pos m]; exact numL_digits m) (by rw [show (T (m : Int)).cps.toList = numL m from tl_pos m]; exact numL_ne m) (by rw [len_tl, tl_pos]; omega)
    rw [show (T (m : Int)).cps.toList = numL m from tl_pos m, numL_val] at h3
    exact h3
theorem T_free {n : Int} : 47 ∉ tl (T n) := by
  rcases Int.lt_or_le n 0 with hn | hn
  · obtain ⟨m, rfl⟩ : ∃ m : Nat, n = -(m : Int) := ⟨n.natAbs, by omega⟩
    rw [tl_neg (by omega)]
    intro h
    rcases List.mem_cons.mp h with h | h
    · exact absurd h (by decide)
    · exact numL_free (by decide) h
  · obtain ⟨m, rfl⟩ : ∃ m : Nat, n = (m : Int) := ⟨n.natAbs, by omega⟩
    rw [tl_pos]
    exact numL_free (by decide)
theorem T_len {n : Int} (h : n.natAbs < 10 ^ 30) : (T n).length ≤ 31 := by
  obtain ⟨_, _, _, h, _⟩ := sgn_int (T_sgn h)
  exact h
theorem T_neg {n : Int} (h : n < 0) : Str.ofString "-" ++ T (-n) = T n := by
  obtain ⟨m, rfl⟩ : ∃ m : Nat, n = -(m : Int) := ⟨n.natAbs, by omega⟩
  refine ext_tl ?_
  rw [tl_append, tl_neg (by omega), Int.neg_neg, tl_pos]
  rfl
/-! ### the stroke -/
abbrev slash : Str := Str.ofString "/"
theorem tl_slash : tl slash = [47] := by decide +kernel
theorem at_slash (z : Str) : (47 ∉ tl z ∧ Txt.partition z slash = (z, Str.empty, Str.empty) ∧ Txt.split z slash = [z]) ∨
    ∃ t b, z = t ++ slash ++ b ∧ 47 ∉ tl t ∧ Txt.partition z slash = (t, slash, b) ∧ Txt.split z slash = t :: Txt.split b slash := by
  have hk : ∀ x : Str, ¬ Builtin.Str.strKind x < Builtin.Str.strKind slash := fun x => kind_ok (by decide +kernel)
  have hne : tl slash ≠ [] := by rw [tl_slash]; simp
  by_cases h : 47 ∈ tl z
  · obtain ⟨as, bs, e, hn⟩ := List.eq_append_cons_of_mem h
    have ez : z = ⟨as.toArray⟩ ++ slash ++ ⟨bs.toArray⟩ := ext_tl (by rw [tl_append, tl_append, tl_slash]; show tl z = as ++ [47] ++ bs; rw [e]; simp)
    refine .inr ⟨⟨as.toArray⟩, ⟨bs.toArray⟩, ez, hn, ?_, ?_⟩
    · rw [ez]
      exact partition_app tl_slash hn
    · refine map_tl_inj ?_
      rw [List.map_cons, split_spl _ _ hne (hk _), split_spl _ _ hne (hk _), tl_slash, e, tl_mk]
      exact spl_part1 (S := []) (acc := []) hn
  · refine .inl ⟨h, partition_none tl_slash h, ?_⟩
    refine map_tl_inj ?_
    rw [split_spl _ _ hne (hk _), tl_slash, spl_last1 h]
    rfl
theorem split_ne (z : Str) : ∃ w ws, Txt.split z slash = w :: ws := by
  rcases at_slash z with ⟨_, _, e⟩ | ⟨t, b, _, _, _, e⟩
  · exact ⟨_, _, e⟩
  · exact ⟨_, _, e⟩
theorem pos_free {z : Str} (h : posL (tl z) = true) : 47 ∉ tl z := by
  intro hm
  have := (posL_iff.mp h).2.2.2 47 hm
  omega
/-- what read does: the place of the fault, or the two integers -/
def rdF (z : Str) : Int ⊕ (Int × Int) :=
  let p := Txt.partition z slash
  if sgnL (tl p.1) = true then (if p.2.1 = Str.empty then .inr (iv p.1, 1) else if posL (tl p.2.2) = true then .inr (iv p.1, iv p.2.2) else .inl 1) else .inl 0
theorem rdF_den {z : Str} {n d : Int} (h : rdF z = .inr (n, d)) : d ≠ 0 ∧ 1 ≤ d ∧ d < 10 ^ 30 ∧ n.natAbs < 10 ^ 30 := by
  unfold rdF at h
  by_cases h1 : sgnL (tl (Txt.partition z slash).1) = true
  · obtain ⟨m, hm, hb, _⟩ := sgn_int h1
    rw [if_pos h1] at h
    by_cases h2 : (Txt.partition z slash).2.1 = Str.empty
    · rw [if_pos h2] at h
      cases h
      rw [iv_of hm]
      exact ⟨by decide, by decide, by decide, hb⟩
    · rw [if_neg h2] at h
      by_cases h3 : posL (tl (Txt.partition z slash).2.2) = true
      · rw [if_pos h3] at h
        obtain ⟨k, hk, k1, k2, _⟩ := pos_int h3
        cases h
        rw [iv_of hm, iv_of hk]
        exact ⟨by omega, by omega, by omega, hb⟩
      · rw [if_neg h3] at h
        cases h
  · rw [if_neg h1] at h
    cases h
theorem slash_ne : slash ≠ Str.empty := by decide +kernel
theorem rd_T {n : Int} (h : n.natAbs < 10 ^ 30) : rdF (T n) = .inr (n, 1) := by
  unfold rdF
  rw [partition_none tl_slash T_free]
  show (if sgnL (tl (T n)) = true then (if Str.empty = Str.empty then Sum.inr (iv (T n), (1 : Int)) else _) else _) = _
  rw [if_pos (T_sgn h), if_pos (show Str.empty = Str.empty from rfl), iv_of (T_int h)]
theorem rd_TT {n d : Int} (h : n.natAbs < 10 ^ 30) (h1 : 1 ≤ d) (h2 : d < 10 ^ 30) : rdF (T n ++ slash ++ T d) = .inr (n, d) := by
  unfold rdF
  rw [partition_app tl_slash T_free]
  simp only []
  rw [if_pos (T_sgn h), if_neg slash_ne, if_pos (T_pos h1 h2), iv_of (T_int h), iv_of (T_int (by omega))]
theorem rd_nil : rdF Str.empty = .inl 0 := by decide +kernel
end ZS
namespace ZS
open PySem TL PySem.NumText
theorem starts_minus (z : Str) : Txt.startswith z (Str.ofString "-") = decide ((tl z).head? = some 45) := by
  have em : tl (Str.ofString "-") = [45] := by decide +kernel
  have el : (Str.ofString "-").length = 1 := by decide +kernel
  unfold Txt.startswith
  rw [StrLaws.subAt_eq, el, show (Str.ofString "-").cps.toList = [45] from em, len_tl, show z.cps.toList = tl z from rfl, List.drop_zero]
  cases tl z with
  | nil => rfl
  | cons c r =>
    show (decide (0 + 1 ≤ r.length + 1) && (([c] : List Nat) == [45])) = _
    rw [decide_eq_true (by omega), Bool.true_and]
    by_cases h : c = 45
    · subst h
      rfl
    · rw [decide_eq_false (by simpa using h)]
      simpa using h
end ZS
namespace ZS
open PySem TL
theorem join1 (y x : Str) : Txt.join y [x] = x := by
  refine ext_tl ?_
  rw [join_eq, tl_join]
  rfl
theorem join2 (y a b : Str) : Txt.join y [a, b] = a ++ y ++ b := by
  refine ext_tl ?_
  rw [join_eq, tl_join, tl_append, tl_append, List.append_assoc]
  rfl
end ZS
namespace ZS
open PySem TL PySem.NumText
/-- the law's own look: the digits d of the word l -/
def intB (d l : List Nat) : Bool := decide (1 ≤ d.length ∧ d.length ≤ 30) && (d.all dig && (!(d.head? == some 48) || decide (l = [48])))
theorem int_minus {l : List Nat} (h : l.head? = some 45) : sgnL l = intB l.tail l := by
  unfold sgnL intB posL
  rw [if_pos h]
  have : decide (l = [48]) = false := by
    refine decide_eq_false ?_
    rintro rfl
    simp at h
  rw [this, Bool.or_false]
  cases decide (1 ≤ l.tail.length ∧ l.tail.length ≤ 30) <;> cases l.tail.all dig <;> cases (l.tail.head? == some 48) <;> rfl
theorem int_plain {l : List Nat} (h : ¬ l.head? = some 45) : sgnL l = intB l l := by
  unfold sgnL intB posL
  rw [if_neg h]
  by_cases e : l = [48]
  · subst e
    rfl
  · rw [decide_eq_false e, Bool.false_or, Bool.or_false]
    cases decide (1 ≤ l.length ∧ l.length ≤ 30) <;> cases l.all dig <;> cases (l.head? == some 48) <;> rfl
theorem take1 {l : List Nat} : l.take 1 = [45] ↔ l.head? = some 45 := by
  cases l with
  | nil => simp
  | cons c r => simp
end ZS
namespace ZS
open PySem TL
theorem rd_plain {z : Str} (h : Txt.partition z slash = (z, Str.empty, Str.empty)) : rdF z = if sgnL (tl z) = true then .inr (iv z, 1) else .inl 0 := by
  unfold rdF
  rw [h]
  show (if sgnL (tl z) = true then (if Str.empty = Str.empty then Sum.inr (iv z, (1 : Int)) else _) else _) = _
  rw [if_pos (show Str.empty = Str.empty from rfl)]
theorem rd_two {z t b : Str} (h : Txt.partition z slash = (t, slash, b)) : rdF z = if sgnL (tl t) = true then (if posL (tl b) = true then .inr (iv t, iv b) else .inl 1) else .inl 0 := by
  unfold rdF
  rw [h]
  show (if sgnL (tl t) = true then (if slash = Str.empty then _ else if posL (tl b) = true then Sum.inr (iv t, iv b) else Sum.inl (1 : Int)) else _) = _
  rw [if_neg slash_ne]
end ZS
namespace ZS
open PySem TL
theorem joinL_len : ∀ l : List (List Nat), l ≠ [] → (joinL [47] l).length + 1 = (l.map List.length).sum + l.length
  | [], h => absurd rfl h
  | [p], _ => by simp [joinL]
  | p :: q :: r, _ => by
    have ih := joinL_len (q :: r) (by simp)
    show (p ++ ([47] ++ joinL [47] (q :: r))).length + 1 = _
    rw [List.length_append, List.length_append]
    simp only [List.map_cons, List.sum_cons, List.length_cons] at ih ⊢
    simp only [List.length_nil]
    omega
theorem join_len {ys : List Str} (h : ys ≠ []) : (Txt.join slash ys).length + 1 = (ys.map (·.length)).sum + ys.length := by
  have h1 := joinL_len (ys.map tl) (by simpa using h)
  have e : (ys.map tl).map List.length = ys.map (·.length) := by
    rw [List.map_map]
    refine List.map_congr_left fun z _ => ?_
    exact (len_tl z).symm
  rw [e, List.length_map] at h1
  rw [← h1, len_tl, join_eq, tl_join, tl_slash]
theorem sum_set : ∀ (l : List Nat) (i x : Nat), (l.set i x).sum ≤ l.sum + x
  | [], _, _ => by simp
  | a :: l, 0, x => by
    simp only [List.set_cons_zero, List.sum_cons]
    omega
  | a :: l, i + 1, x => by
    have := sum_set l i x
    simp only [List.set_cons_succ, List.sum_cons]
    omega
theorem split_sum (z : Str) : ((Txt.split z slash).map (·.length)).sum + (Txt.split z slash).length = z.length + 1 := by
  obtain ⟨w, ws, e⟩ := split_ne z
  rw [← join_len (by rw [e]; simp), join_eq, StrLaws.join_split]
theorem set_join (z m : Str) (j : Nat) : (((Txt.split z slash).set j m).map (·.length)).sum + ((Txt.split z slash).set j m).length ≤ z.length + 1 + m.length ∧ (Txt.join slash ((Txt.split z slash).set j m)).length ≤ z.length + m.length := by
  have h1 := split_sum z
  have h2 := sum_set ((Txt.split z slash).map (·.length)) j m.length
  have e : ((Txt.split z slash).set j m).map (·.length) = ((Txt.split z slash).map (·.length)).set j m.length := List.map_set
  obtain ⟨w, ws, ew⟩ := split_ne z
  have h3 := join_len (ys := (Txt.split z slash).set j m) (by
    intro h
    have := congrArg List.length h
    rw [List.length_set, ew] at this
    simp at this)
  rw [List.length_set, e] at *
  omega
end ZS

set_option linter.all false
namespace OM
variable {α : Type} [DecidableEq α]
inductive Rch (E : List (α × α)) : α → α → Prop
  | refl (a : α) : Rch E a a
  | step {a b c : α} : (a, b) ∈ E → Rch E b c → Rch E a c
theorem Rch.trans {E : List (α × α)} {a b c : α} (h : Rch E a b) (k : Rch E b c) : Rch E a c := by
  induction h with
  | refl => exact k
  | step e _ ih => exact .step e (ih k)
theorem Rch.one {E : List (α × α)} {a b : α} (h : (a, b) ∈ E) : Rch E a b := .step h (.refl _)
theorem Rch.mono {E F : List (α × α)} (hs : ∀ p ∈ E, Rch F p.1 p.2) {a b : α} (h : Rch E a b) : Rch F a b := by
  induction h with
  | refl => exact .refl _
  | step e _ ih => exact (hs _ e).trans ih
theorem Rch.mem {E : List (α × α)} {N : List α} (hE : ∀ p ∈ E, p.1 ∈ N ∧ p.2 ∈ N) {a b : α} (h : Rch E a b) : a = b ∨ (a ∈ N ∧ b ∈ N) := by
  induction h with
  | refl => exact .inl rfl
  | step e _ ih =>
    rcases ih with rfl | h
    · exact .inr (hE _ e)
    · exact .inr ⟨(hE _ e).1, h.2⟩
open Classical in
noncomputable def cl (E : List (α × α)) (a b : α) : Bool := decide (Rch E a b)
theorem cl_iff {E : List (α × α)} {a b : α} : cl E a b = true ↔ Rch E a b := by simp [cl]
theorem cl_false {E : List (α × α)} {a b : α} : cl E a b = false ↔ ¬ Rch E a b := by simp [cl]
theorem cl_refl (E : List (α × α)) (a : α) : cl E a a = true := cl_iff.mpr (.refl a)
theorem cl_trans {E : List (α × α)} {a b c : α} (h : cl E a b = true) (k : cl E b c = true) : cl E a c = true := cl_iff.mpr ((cl_iff.mp h).trans (cl_iff.mp k))
theorem cl_congr {E F : List (α × α)} (h : ∀ p ∈ E, Rch F p.1 p.2) (k : ∀ p ∈ F, Rch E p.1 p.2) : cl E = cl F := by
  funext a b
  rw [Bool.eq_iff_iff, cl_iff, cl_iff]
  exact ⟨Rch.mono h, Rch.mono k⟩
/-! ### Warshall -/
def wm (E : List (α × α)) : List α → α → α → Bool
  | [], a, b => decide (a = b) || decide ((a, b) ∈ E)
  | m :: ms, a, b => wm E ms a b || (wm E ms a m && wm E ms m b)
theorem wm_mono {E : List (α × α)} {m : α} {ms : List α} {a b : α} (h : wm E ms a b = true) : wm E (m :: ms) a b = true := by simp [wm, h]
theorem wm_base {E : List (α × α)} {a b : α} (h : wm E [] a b = true) : ∀ ms, wm E ms a b = true
  | [] => h
  | _ :: ms => wm_mono (wm_base h ms)
theorem wm_refl (E : List (α × α)) (ms : List α) (a : α) : wm E ms a a = true := wm_base (by simp [wm]) ms
theorem wm_edge {E : List (α × α)} {a b : α} (h : (a, b) ∈ E) (ms : List α) : wm E ms a b = true := wm_base (by simp [wm, h]) ms
theorem wm_trans {E : List (α × α)} : ∀ {ms : List α} {m a b : α}, m ∈ ms → wm E ms a m = true → wm E ms m b = true → wm E ms a b = true
  | m' :: ms, m, a, b, hm, h1, h2 => by
    simp only [wm, Bool.or_eq_true, Bool.and_eq_true] at h1 h2 ⊢
    by_cases e : m = m'
    · subst e
      have h1' : wm E ms a m = true := by rcases h1 with h | h; exact h; exact h.1
      have h2' : wm E ms m b = true := by rcases h2 with h | h; exact h; exact h.2
      exact .inr ⟨h1', h2'⟩
    · have hm : m ∈ ms := by
        rcases List.mem_cons.mp hm with h | h
        · exact absurd h e
        · exact h
      rcases h1 with h1 | ⟨h1, h1'⟩ <;> rcases h2 with h2 | ⟨h2, h2'⟩
      · exact .inl (wm_trans hm h1 h2)
      · exact .inr ⟨wm_trans hm h1 h2, h2'⟩
      · exact .inr ⟨h1, wm_trans hm h1' h2⟩
      · exact .inr ⟨h1, h2'⟩
theorem wm_rch {E : List (α × α)} : ∀ {ms : List α} {a b : α}, wm E ms a b = true → Rch E a b
  | [], a, b, h => by
    simp only [wm, Bool.or_eq_true, decide_eq_true_eq] at h
    rcases h with rfl | h
    · exact .refl _
    · exact .one h
  | m :: ms, a, b, h => by
    simp only [wm, Bool.or_eq_true, Bool.and_eq_true] at h
    rcases h with h | ⟨h, k⟩
    · exact wm_rch h
    · exact (wm_rch h).trans (wm_rch k)
theorem rch_wm {E : List (α × α)} {ms : List α} (hE : ∀ p ∈ E, p.2 ∈ ms) {a b : α} (h : Rch E a b) : wm E ms a b = true := by
  induction h with
  | refl => exact wm_refl _ _ _
  | step e _ ih => exact wm_trans (hE _ e) (wm_edge e ms) ih
theorem wm_cl {E : List (α × α)} {ms : List α} (hE : ∀ p ∈ E, p.2 ∈ ms) : wm E ms = cl E := by
  funext a b
  rw [Bool.eq_iff_iff, cl_iff]
  exact ⟨wm_rch, rch_wm hE⟩
/-! ### paths of a length -/
def Pth (E : List (α × α)) : Nat → α → α → Prop
  | 0, a, b => a = b
  | k + 1, a, b => a = b ∨ ∃ c, (a, c) ∈ E ∧ Pth E k c b
theorem Pth.refl (E : List (α × α)) : ∀ (k : Nat) (a : α), Pth E k a a
  | 0, _ => rfl
  | _ + 1, _ => .inl rfl
theorem Pth.succ {E : List (α × α)} : ∀ {k : Nat} {a b : α}, Pth E k a b → Pth E (k + 1) a b
  | 0, _, _, h => .inl h
  | k + 1, _, _, h => by
    rcases h with rfl | ⟨c, e, h⟩
    · exact .inl rfl
    · exact .inr ⟨c, e, h.succ⟩
theorem Pth.le {E : List (α × α)} {k j : Nat} (h : k ≤ j) {a b : α} (p : Pth E k a b) : Pth E j a b := by
  induction h with
  | refl => exact p
  | step _ ih => exact ih.succ
theorem rch_pth {E : List (α × α)} {a b : α} (h : Rch E a b) : ∃ k, Pth E k a b := by
  induction h with
  | refl => exact ⟨0, rfl⟩
  | step e _ ih => exact ⟨ih.choose + 1, .inr ⟨_, e, ih.choose_spec⟩⟩
theorem Pth.mem {E : List (α × α)} {N : List α} (hE : ∀ p ∈ E, p.1 ∈ N ∧ p.2 ∈ N) : ∀ {k : Nat} {a b : α}, Pth E k a b → b ∈ N → a ∈ N
  | 0, _, _, h, hb => h ▸ hb
  | k + 1, _, _, h, hb => by
    rcases h with rfl | ⟨c, e, _⟩
    · exact hb
    · exact (hE _ e).1
open Classical in
theorem stall {E : List (α × α)} {b : α} {k : Nat} (h : ∀ a, Pth E (k + 1) a b → Pth E k a b) : ∀ j a, Pth E j a b → Pth E k a b
  | 0, a, p => by
    cases p
    exact Pth.refl _ _ _
  | j + 1, a, p => by
    rcases p with rfl | ⟨c, e, p⟩
    · exact Pth.refl _ _ _
    · exact h a (.inr ⟨c, e, stall h j c p⟩)
theorem filter_sub_eq {p q : α → Bool} : ∀ {l : List α}, (∀ a ∈ l, p a = true → q a = true) → (l.filter q).length ≤ (l.filter p).length → ∀ a ∈ l, q a = true → p a = true
  | [], _, _, a, ha, _ => by cases ha
  | x :: l, hs, hl, a, ha, hq => by
    have hs' : ∀ a ∈ l, p a = true → q a = true := fun a h => hs a (List.mem_cons_of_mem _ h)
    have le : (l.filter p).length ≤ (l.filter q).length := by
      clear hl hq ha
      induction l with
      | nil => exact Nat.le_refl _
      | cons y l ih =>
        have ih := ih (fun a h => hs a (by
          rcases List.mem_cons.mp h with h | h
          · exact h ▸ List.mem_cons_self
          · exact List.mem_cons_of_mem _ (List.mem_cons_of_mem _ h))) fun a h => hs' a (List.mem_cons_of_mem _ h)
        have := hs' y List.mem_cons_self
        simp only [List.filter_cons]
        by_cases h1 : p y = true
        · rw [if_pos h1, if_pos (this h1)]
          simp; omega
        · rw [if_neg h1]
          split
          · simp; omega
          · exact ih
    have hx := hs x List.mem_cons_self
    simp only [List.filter_cons] at hl
    by_cases h1 : p x = true
    · rw [if_pos h1, if_pos (hx h1)] at hl
      rcases List.mem_cons.mp ha with h | h
      · exact h ▸ h1
      · exact filter_sub_eq hs' (by simpa using hl) a h hq
    · rw [if_neg h1] at hl
      by_cases h2 : q x = true
      · rw [if_pos h2] at hl
        simp at hl
        omega
      · rw [if_neg h2] at hl
        rcases List.mem_cons.mp ha with h | h
        · exact absurd (h ▸ hq) h2
        · exact filter_sub_eq hs' hl a h hq
open Classical in
theorem grows {E : List (α × α)} {N : List α} (hE : ∀ p ∈ E, p.1 ∈ N ∧ p.2 ∈ N) {b : α} (hb : b ∈ N) : ∀ k, (∀ a, Pth E (k + 1) a b → Pth E k a b) ∨ k + 1 ≤ (N.filter fun a => decide (Pth E k a b)).length
  | 0 => by
    right
    have : b ∈ N.filter fun a => decide (Pth E 0 a b) := List.mem_filter.mpr ⟨hb, by simp [Pth]⟩
    have := List.length_pos_of_mem this
    omega
  | k + 1 => by
    rcases grows hE hb k with h | h
    · exact .inl fun a p => (stall h _ a p).succ
    · by_cases q : k + 2 ≤ (N.filter fun a => decide (Pth E (k + 1) a b)).length
      · exact .inr q
      · left
        have st : ∀ a, Pth E (k + 1) a b → Pth E k a b := fun a p => by
          have := filter_sub_eq (l := N) (p := fun a => decide (Pth E k a b)) (q := fun a => decide (Pth E (k + 1) a b)) (fun a _ h => by simpa using (of_decide_eq_true h).succ) (by omega) a (p.mem hE hb) (by simpa using p)
          simpa using this
        exact fun a p => (stall st _ a p).succ
open Classical in
theorem rch_short {E : List (α × α)} {N : List α} (hE : ∀ p ∈ E, p.1 ∈ N ∧ p.2 ∈ N) {a b : α} (h : Rch E a b) : Pth E N.length a b := by
  rcases h.mem hE with rfl | ⟨_, hb⟩
  · exact Pth.refl _ _ _
  · obtain ⟨j, p⟩ := rch_pth h
    rcases grows hE hb N.length with q | q
    · exact stall q j a p
    · have := List.length_filter_le (fun a => decide (Pth E N.length a b)) N
      omega
/-! ### the law's own closure -/
def put (f : α → List α) (a : α) (l : List α) : α → List α := fun x => if x = a then l else f x
def turn1 (f : α → List α) (p : α × α) : α → List α := put f p.1 (f p.1 ++ (f p.2).filter fun x => !decide (x ∈ f p.1))
def turn (E : List (α × α)) (f : α → List α) : α → List α := E.foldl turn1 f
def turns (E : List (α × α)) : Nat → (α → List α) → α → List α
  | 0, f => f
  | n + 1, f => turns E n (turn E f)
theorem turn1_mono {f : α → List α} {p : α × α} {a b : α} (h : b ∈ f a) : b ∈ turn1 f p a := by
  unfold turn1 put
  split
  · rename_i e
    subst e
    exact List.mem_append_left _ h
  · exact h
theorem turn_mono {E : List (α × α)} : ∀ {f : α → List α} {a b : α}, b ∈ f a → b ∈ turn E f a := by
  induction E with
  | nil => exact fun h => h
  | cons p E ih => exact fun h => ih (turn1_mono h)
theorem turn_edge {E : List (α × α)} : ∀ {f : α → List α} {p : α × α} {b : α}, p ∈ E → b ∈ f p.2 → b ∈ turn E f p.1 := by
  induction E with
  | nil => intro f p b h; cases h
  | cons q E ih =>
    intro f p b h hb
    rcases List.mem_cons.mp h with rfl | h
    · show b ∈ turn E (turn1 f p) p.1
      refine turn_mono ?_
      unfold turn1 put
      rw [if_pos rfl]
      by_cases e : b ∈ f p.1
      · exact List.mem_append_left _ e
      · exact List.mem_append_right _ (List.mem_filter.mpr ⟨hb, by simp [e]⟩)
    · exact ih h (turn1_mono hb)
theorem turns_succ (E : List (α × α)) : ∀ (n : Nat) (f : α → List α), turns E (n + 1) f = turn E (turns E n f)
  | 0, _ => rfl
  | n + 1, f => turns_succ E n (turn E f)
theorem turns_pth {E : List (α × α)} : ∀ {k : Nat} {a b : α}, Pth E k a b → b ∈ turns E k (fun x => [x]) a
  | 0, a, b, h => by
    cases h
    exact List.mem_singleton.mpr rfl
  | k + 1, a, b, h => by
    rw [turns_succ]
    rcases h with rfl | ⟨c, e, h⟩
    · exact turn_mono (turns_pth (Pth.refl E k a))
    · exact turn_edge (p := (a, c)) e (turns_pth h)
theorem turn1_sound {E : List (α × α)} {f : α → List α} {p : α × α} (hp : p ∈ E) (h : ∀ a b, b ∈ f a → Rch E a b) : ∀ a b, b ∈ turn1 f p a → Rch E a b := by
  intro a b hb
  unfold turn1 put at hb
  split at hb
  · rename_i e
    subst e
    rcases List.mem_append.mp hb with hb | hb
    · exact h _ _ hb
    · exact .step hp (h _ _ (List.mem_filter.mp hb).1)
  · exact h _ _ hb
theorem turn_sound {E : List (α × α)} : ∀ {F : List (α × α)} {f : α → List α}, (∀ p ∈ F, p ∈ E) → (∀ a b, b ∈ f a → Rch E a b) → ∀ a b, b ∈ turn F f a → Rch E a b := by
  intro F
  induction F with
  | nil => exact fun _ h => h
  | cons p F ih => exact fun hs h => ih (fun q hq => hs q (List.mem_cons_of_mem _ hq)) (turn1_sound (hs p List.mem_cons_self) h)
theorem turns_sound {E : List (α × α)} : ∀ {k : Nat} {a b : α}, b ∈ turns E k (fun x => [x]) a → Rch E a b
  | 0, a, b, h => by
    rw [List.mem_singleton.mp h]
    exact .refl _
  | k + 1, a, b, h => by
    rw [turns_succ] at h
    exact turn_sound (fun _ h => h) (fun _ _ h => turns_sound h) a b h
theorem turn1_nodup {f : α → List α} {p : α × α} (h : ∀ a, (f a).Nodup) : ∀ a, (turn1 f p a).Nodup := by
  intro a
  unfold turn1 put
  split
  · refine List.nodup_append.mpr ⟨h _, (h _).filter _, ?_⟩
    intro x hx y hy e
    subst e
    have := (List.mem_filter.mp hy).2
    simp [hx] at this
  · exact h a
theorem turn_nodup : ∀ {F : List (α × α)} {f : α → List α}, (∀ a, (f a).Nodup) → ∀ a, (turn F f a).Nodup := by
  intro F
  induction F with
  | nil => exact fun h => h
  | cons p F ih => exact fun h => ih (turn1_nodup h)
theorem turns_nodup {E : List (α × α)} : ∀ {k : Nat} (a : α), (turns E k (fun x => [x]) a).Nodup
  | 0, a => by simp [turns]
  | k + 1, a => by
    rw [turns_succ]
    exact turn_nodup (fun a => turns_nodup a) a
/-- what the law's closure has -/
theorem turns_iff {E : List (α × α)} {N : List α} (hE : ∀ p ∈ E, p.1 ∈ N ∧ p.2 ∈ N) {a b : α} : b ∈ turns E N.length (fun x => [x]) a ↔ cl E a b = true := by
  rw [cl_iff]
  exact ⟨turns_sound, fun h => turns_pth (rch_short hE h)⟩
end OM

set_option linter.all false
namespace OM
variable {α : Type} [DecidableEq α]
/-! ### pairs and covers -/
def ab (N : List α) (R : α → α → Bool) (a : α) : List α := N.filter (R a)
def prs (N : List α) (R : α → α → Bool) : List (α × α) := N.flatMap fun a => ((ab N R a).filter fun b => !decide (a = b)).map fun b => (a, b)
def btw (N : List α) (R : α → α → Bool) (a b : α) : List α := (ab N R a).filter fun c => R c b
def cvs (N : List α) (R : α → α → Bool) : List (α × α) := (prs N R).filter fun p => decide ((btw N R p.1 p.2).length = 2)
theorem mem_ab {N : List α} {R : α → α → Bool} {a b : α} : b ∈ ab N R a ↔ b ∈ N ∧ R a b = true := List.mem_filter
theorem mem_prs {N : List α} {R : α → α → Bool} {a b : α} : (a, b) ∈ prs N R ↔ a ∈ N ∧ b ∈ N ∧ R a b = true ∧ a ≠ b := by
  simp only [prs, List.mem_flatMap, List.mem_map, List.mem_filter, Prod.mk.injEq, mem_ab]
  constructor
  · rintro ⟨x, hx, y, ⟨hy, hn⟩, rfl, rfl⟩
    exact ⟨hx, hy.1, hy.2, by simpa using hn⟩
  · rintro ⟨h1, h2, h3, h4⟩
    exact ⟨a, h1, b, ⟨⟨h2, h3⟩, by simpa using h4⟩, rfl, rfl⟩
theorem mem_btw {N : List α} {R : α → α → Bool} {a b c : α} : c ∈ btw N R a b ↔ c ∈ N ∧ R a c = true ∧ R c b = true := by
  simp only [btw, List.mem_filter, mem_ab, and_assoc]
theorem mem_cvs {N : List α} {R : α → α → Bool} {a b : α} : (a, b) ∈ cvs N R ↔ (a ∈ N ∧ b ∈ N ∧ R a b = true ∧ a ≠ b) ∧ (btw N R a b).length = 2 := by
  simp only [cvs, List.mem_filter, mem_prs, decide_eq_true_eq]
theorem nodup_two {l : List α} (h : l.Nodup) {a b : α} (ha : a ∈ l) (hb : b ∈ l) (ne : a ≠ b) : l.length = 2 + (l.filter fun c => !decide (c = a) && !decide (c = b)).length := by
  have one : ∀ {l : List α} {a : α}, l.Nodup → a ∈ l → l.length = 1 + (l.filter fun c => !decide (c = a)).length := by
    intro l a
    induction l with
    | nil => intro _ h; cases h
    | cons x l ih =>
      intro hn hm
      obtain ⟨h1, h2⟩ := List.nodup_cons.mp hn
      by_cases e : x = a
      · subst e
        have : l.filter (fun c => !decide (c = x)) = l := List.filter_eq_self.mpr fun c hc => by
          have : c ≠ x := fun e => h1 (e ▸ hc)
          simpa using this
        simp [this]
        omega
      · have hm : a ∈ l := by
          rcases List.mem_cons.mp hm with h | h
          · exact absurd h.symm e
          · exact h
        have := ih h2 hm
        simp [e]
        omega
  have h1 := one h ha
  have h2 := one (a := b) (h.filter fun c => !decide (c = a)) (List.mem_filter.mpr ⟨hb, by simpa using Ne.symm ne⟩)
  rw [List.filter_filter] at h2
  have e : (l.filter fun c => (!decide (c = b)) && !decide (c = a)) = l.filter fun c => !decide (c = a) && !decide (c = b) := by
    congr 1
    funext c
    exact Bool.and_comm _ _
  rw [e] at h2
  omega
theorem btw_two {N : List α} {R : α → α → Bool} (hN : N.Nodup) (hr : ∀ a, R a a = true) {a b : α} (ha : a ∈ N) (hb : b ∈ N) (h : R a b = true) (ne : a ≠ b) :
    (btw N R a b).length = 2 ↔ ∀ c ∈ N, R a c = true → R c b = true → c = a ∨ c = b := by
  have hn : (btw N R a b).Nodup := (hN.filter _).filter _
  have := nodup_two hn (mem_btw.mpr ⟨ha, hr a, h⟩) (mem_btw.mpr ⟨hb, h, hr b⟩) ne
  rw [this]
  constructor
  · intro e c hc h1 h2
    have z : ((btw N R a b).filter fun c => !decide (c = a) && !decide (c = b)) = [] := List.eq_nil_of_length_eq_zero (by omega)
    have := List.filter_eq_nil_iff.mp z c (mem_btw.mpr ⟨hc, h1, h2⟩)
    simp at this
    by_cases e : c = a
    · exact .inl e
    · exact .inr (this e)
  · intro k
    have z : ((btw N R a b).filter fun c => !decide (c = a) && !decide (c = b)) = [] := List.filter_eq_nil_iff.mpr fun c hc => by
      obtain ⟨hc, h1, h2⟩ := mem_btw.mp hc
      rcases k c hc h1 h2 with e | e <;> simp [e]
    rw [z]
    rfl
/-- covers as the law finds them: f tells what is above -/
def lcv (N : List α) (f : α → List α) (g : α → List α) : List (α × α) := N.flatMap fun a => ((g a).filter fun b => !decide (b = a) && decide (((f a).filter fun c => !(decide (c = a) || decide (c = b)) && decide (b ∈ f c)) = [])).map fun b => (a, b)
theorem lcv_eq {N : List α} {R : α → α → Bool} {f : α → List α} (hN : N.Nodup) (hr : ∀ a, R a a = true) (hf : ∀ a ∈ N, ∀ b, b ∈ f a ↔ b ∈ N ∧ R a b = true) : lcv N f (ab N R) = cvs N R := by
  unfold lcv cvs prs
  rw [List.filter_flatMap]
  have cong : ∀ {l : List α} {F G : α → List (α × α)}, (∀ a ∈ l, F a = G a) → l.flatMap F = l.flatMap G := by
    intro l F G h
    induction l with
    | nil => rfl
    | cons x l ih => rw [List.flatMap_cons, List.flatMap_cons, h x List.mem_cons_self, ih fun a ha => h a (List.mem_cons_of_mem _ ha)]
  refine cong fun a ha => ?_
  rw [List.filter_map, List.filter_filter]
  congr 1
  refine List.filter_congr fun b hb => ?_
  obtain ⟨hb, hR⟩ := mem_ab.mp hb
  by_cases e : b = a
  · simp [e]
  · have e' : ¬ a = b := fun z => e z.symm
    simp only [Function.comp, e, e', decide_false, Bool.not_false, Bool.true_and, Bool.and_true]
    refine decide_eq_decide.mpr ?_
    rw [btw_two hN hr ha hb hR e', List.filter_eq_nil_iff]
    constructor
    · intro k c hc h1 h2
      have := k c ((hf a ha c).mpr ⟨hc, h1⟩)
      have := this
      simp [(hf c hc b).mpr ⟨hb, h2⟩] at this
      by_cases z : c = a
      · exact .inl z
      · exact .inr (this z)
    · intro k c hc
      obtain ⟨hc, h1⟩ := (hf a ha c).mp hc
      by_cases h2 : b ∈ f c
      · rcases k c hc h1 ((hf c hc b).mp h2).2 with z | z <;> simp [z]
      · simp [h2]
/-- covers tell the order -/
theorem cvs_rch {N : List α} {R : α → α → Bool} (hN : N.Nodup) (hr : ∀ a, R a a = true) (ht : ∀ a b c, R a b = true → R b c = true → R a c = true) (hs : ∀ a b, a ∈ N → b ∈ N → R a b = true → R b a = true → a = b) :
    ∀ (n : Nat) (a b : α), (btw N R a b).length ≤ n → a ∈ N → b ∈ N → R a b = true → Rch (cvs N R) a b
  | 0, a, b, h, ha, hb, k => by
    have := List.length_pos_of_mem (mem_btw.mpr ⟨ha, hr a, k⟩)
    omega
  | n + 1, a, b, h, ha, hb, k => by
    by_cases e : a = b
    · exact e ▸ .refl _
    by_cases two : (btw N R a b).length = 2
    · exact .one (mem_cvs.mpr ⟨⟨ha, hb, k, e⟩, two⟩)
    · rw [btw_two hN hr ha hb k e] at two
      obtain ⟨c, hc, h1, h2, ca, cb⟩ : ∃ c, c ∈ N ∧ R a c = true ∧ R c b = true ∧ c ≠ a ∧ c ≠ b := by
        refine Classical.byContradiction fun no => two fun c hc h1 h2 => ?_
        by_cases z : c = a
        · exact .inl z
        · exact .inr (Classical.byContradiction fun z2 => no ⟨c, hc, h1, h2, z, z2⟩)
      have less : ∀ x y z, x ∈ btw N R a b → x ∉ btw N R y z → (∀ w, w ∈ btw N R y z → w ∈ btw N R a b) → (btw N R y z).length ≤ n := by
        intro x y z hx hn hsub
        have nd : (x :: btw N R y z).Nodup := List.nodup_cons.mpr ⟨hn, (hN.filter _).filter _⟩
        have := nd.length_le_of_subset (l₂ := btw N R a b) fun w hw => by
          rcases List.mem_cons.mp hw with rfl | hw
          · exact hx
          · exact hsub w hw
        simp at this
        omega
      refine (cvs_rch hN hr ht hs n a c (less b a c (mem_btw.mpr ⟨hb, k, hr b⟩) (fun z => cb (hs _ _ hc hb h2 (mem_btw.mp z).2.2)) fun w hw => ?_) ha hc h1).trans
        (cvs_rch hN hr ht hs n c b (less a c b (mem_btw.mpr ⟨ha, hr a, k⟩) (fun z => ca (hs _ _ hc ha (mem_btw.mp z).2.1 h1)) fun w hw => ?_) hc hb h2)
      · obtain ⟨x, y, z⟩ := mem_btw.mp hw
        exact mem_btw.mpr ⟨x, y, ht _ _ _ z h2⟩
      · obtain ⟨x, y, z⟩ := mem_btw.mp hw
        exact mem_btw.mpr ⟨x, ht _ _ _ h1 y, z⟩
/-- no two below each other -/
def Anti (E : List (α × α)) : Prop := ∀ a b, Rch E a b → Rch E b a → a = b
theorem cvs_cl {E : List (α × α)} {N : List α} (hN : N.Nodup) (hE : ∀ p ∈ E, p.1 ∈ N ∧ p.2 ∈ N) (ha : Anti E) : cl (cvs N (cl E)) = cl E := by
  refine cl_congr (fun p hp => ?_) fun p hp => ?_
  · exact cl_iff.mp (mem_cvs.mp hp).1.2.2.1
  · exact cvs_rch hN (cl_refl E) (fun _ _ _ => cl_trans) (fun a b _ _ h k => ha a b (cl_iff.mp h) (cl_iff.mp k)) _ _ _ (Nat.le_refl _) (hE _ hp).1 (hE _ hp).2 (cl_iff.mpr (.one hp))
theorem prs_cl {E : List (α × α)} {N : List α} (hE : ∀ p ∈ E, p.1 ∈ N ∧ p.2 ∈ N) : cl (prs N (cl E)) = cl E := by
  refine cl_congr (fun p hp => cl_iff.mp (mem_prs.mp hp).2.2.1) fun p hp => ?_
  by_cases e : p.1 = p.2
  · rw [e]; exact .refl _
  · exact .one (mem_prs.mpr ⟨(hE _ hp).1, (hE _ hp).2, cl_iff.mpr (.one hp), e⟩)
/-- one pair more -/
theorem rch_more {E : List (α × α)} {l h a b : α} : Rch (E ++ [(l, h)]) a b ↔ Rch E a b ∨ (Rch E a l ∧ Rch E h b) := by
  constructor
  · intro k
    induction k with
    | refl => exact .inl (.refl _)
    | step e _ ih =>
      rcases List.mem_append.mp e with e | e
      · rcases ih with ih | ⟨ih, k⟩
        · exact .inl (.step e ih)
        · exact .inr ⟨.step e ih, k⟩
      · cases List.mem_singleton.mp e
        rcases ih with ih | ⟨ih, k⟩
        · exact .inr ⟨.refl _, ih⟩
        · exact .inr ⟨.refl _, k⟩
  · have up : ∀ {a b}, Rch E a b → Rch (E ++ [(l, h)]) a b := Rch.mono fun p hp => .one (List.mem_append_left _ hp)
    rintro (k | ⟨k1, k2⟩)
    · exact up k
    · exact (up k1).trans (.step (List.mem_append_right _ (List.mem_singleton.mpr rfl)) (up k2))
theorem anti_more {E : List (α × α)} {l h : α} (ha : Anti E) (hn : ¬ Rch E h l) : Anti (E ++ [(l, h)]) := by
  intro a b k1 k2
  rw [rch_more] at k1 k2
  rcases k1 with k1 | ⟨k1, k1'⟩ <;> rcases k2 with k2 | ⟨k2, k2'⟩
  · exact ha _ _ k1 k2
  · exact absurd (k2'.trans (k1.trans k2)) hn
  · exact absurd (k1'.trans (k2.trans k1)) hn
  · exact absurd (k1'.trans k2) hn
theorem cl_more {E : List (α × α)} {N : List α} {l h : α} (hl : l ∈ N) (hh : h ∈ N) : (∀ a ∈ N, ∀ b ∈ N, cl E a b = cl (E ++ [(l, h)]) a b) ↔ cl E l h = true := by
  constructor
  · intro k
    rw [k l hl h hh, cl_iff, rch_more]
    exact .inr ⟨.refl _, .refl _⟩
  · intro k a _ b _
    rw [Bool.eq_iff_iff, cl_iff, cl_iff, rch_more]
    constructor
    · exact .inl
    · rintro (q | ⟨q1, q2⟩)
      · exact q
      · exact (q1.trans (cl_iff.mp k)).trans q2
/-- pairs along a line -/
theorem anti_rank {E : List (α × α)} (r : α → Nat) (h : ∀ p ∈ E, p.1 = p.2 ∨ r p.1 < r p.2) : Anti E := by
  have up : ∀ {a b}, Rch E a b → a = b ∨ r a < r b := by
    intro a b k
    induction k with
    | refl => exact .inl rfl
    | step e _ ih =>
      have := h _ e
      rcases this with z | z <;> rcases ih with y | y
      · exact .inl (z.trans y)
      · exact .inr (by dsimp only at z; rw [z]; exact y)
      · exact .inr (by rw [← y]; exact z)
      · exact .inr (Nat.lt_trans z y)
  intro a b k1 k2
  rcases up k1 with e | e
  · exact e
  · rcases up k2 with e2 | e2
    · exact e2.symm
    · omega
theorem anti_sub {E F : List (α × α)} (hs : ∀ p ∈ E, Rch F p.1 p.2) (h : Anti F) : Anti E := fun a b k1 k2 => h a b (k1.mono hs) (k2.mono hs)
end OM

set_option Elab.async false
set_option linter.all false
set_option maxRecDepth 100000
set_option maxHeartbeats 4000000
/-! own __contains__, __len__, __iter__ (which hands back iter of a tuple), list(o) -/
namespace Z
open PySem PySem.Spec PyProof.Rows L2
section
variable {X : Cx} {k j : Nat} {f C : Addr} {sp : Sp}
/-- x in o, o an instance with its own __contains__ -/
def rInOwn (C : Addr) (sp : Sp) (neg : Bool) : R2 := fun x y H Q => ∃ a dx fs, y = .ref a ∧ H a = some (.ins C dx fs) ∧
  sp [.ref a, x] H (fun v H' => ∃ r : Bool, v = .bl r ∧ Q (.bl (r != neg)) H') (fun _ _ _ => False)
theorem backBl {A : Around} {pins : List (Addr × Obj)} {σ : L2.St} {H : Hp} {s : Shared} {g : Bool → Bool} {Q : VK} {us : List Value} {vs : List V} (F : FnR X.prog X.w X.K X.mg X.base (L2.CX X.prog X.w) k f sp) (hr : Room k A) (e0 : Env0 X.prog X.w X.K X.mg X.base A X.stack s H)
    (I : Inv X pins σ H s) (r : Vals vs us) (h : sp vs H (fun v H' => ∃ r : Bool, v = .bl r ∧ Q (.bl (g r)) H') (fun _ _ _ => False)) :
    wpAny (model X.prog X.w) A (call (.ref f) us) (fun v s' => ∃ r : Bool, v = .bool r ∧ EP X pins σ Q (.bool (g r)) s') X.xe s := by
  refine wpAny_call (codeAny_mono (F A X.stack s H us vs _ (fun _ _ _ => False) hr e0 r h) fun q s' hq => ?_)
  rcases q with e | fl
  · exact (cxN hq).elim
  rcases fl with _ | _ | _ | u'
  · exact False.elim hq
  · exact False.elim hq
  · exact False.elim hq
  obtain ⟨v', H', J', rv, r, ev, q⟩ := I.after hq
  subst ev
  obtain rfl : u' = Value.bool r := rv
  exact ⟨r, rfl, .bl (g r), H', J', rfl, q⟩
theorem z_inOwn (c : CalO X.prog X.w X.K X.mg X.base C "__contains__" k sp) (hr : Room j X.A) (hj : k ≤ j := by decide) : OpR X (compareOp .In) (rInOwn C sp false) := by
  intro pins s σ H x y v u Q I rx ry h
  obtain ⟨f, S, sf, F⟩ := c
  obtain ⟨a, dx, fs, rfl, ea, h⟩ := h
  obtain rfl : u = Value.ref a := ry
  obtain ⟨ox, od, Ja⟩ := instAt I ea
  obtain ⟨m, fr⟩ := I.fr
  refine PySem.W.in_K fr I.ok.mod.kin Ja S.at_ S.fn (wpAny_mono (backBl (vs := [.ref a, x]) F (hr.mono hj) I.env0 I (.cons rfl (.cons rx .nil)) h) (fun v s' hv => ?_) fun _ _ z => z)
  obtain ⟨r, rfl, q⟩ := hv
  refine wpAny_truthy_bool ?_
  have e : (r != false) = r := by cases r <;> rfl
  rw [e] at q
  exact q
theorem z_notInOwn (c : CalO X.prog X.w X.K X.mg X.base C "__contains__" k sp) (hr : Room j X.A) (hj : k ≤ j := by decide) : OpR X (compareOp .NotIn) (rInOwn C sp true) := by
  intro pins s σ H x y v u Q I rx ry h
  obtain ⟨f, S, sf, F⟩ := c
  obtain ⟨a, dx, fs, rfl, ea, h⟩ := h
  obtain rfl : u = Value.ref a := ry
  obtain ⟨ox, od, Ja⟩ := instAt I ea
  obtain ⟨m, fr⟩ := I.fr
  refine PySem.W.notIn_K fr I.ok.mod.kin Ja S.at_ S.fn (wpAny_mono (backBl (vs := [.ref a, x]) F (hr.mono hj) I.env0 I (.cons rfl (.cons rx .nil)) h) (fun v s' hv => ?_) fun _ _ z => z)
  obtain ⟨r, rfl, q⟩ := hv
  refine wpAny_truthy_bool ?_
  have e : (r != true) = !r := by cases r <;> rfl
  rw [e] at q
  exact q
/-- len(o) by an own __len__ -/
def rLenOwn (C : Addr) (sp : Sp) : List V → Hp → VK → Prop := fun xs H Q => ∃ a dx fs, xs = [.ref a] ∧ H a = some (.ins C dx fs) ∧
  sp [.ref a] H (fun v H' => ∃ n : Int, v = .int n ∧ (0 ≤ n ∧ n < 2 ^ 63) ∧ Q (.int n) H') (fun _ _ _ => False)
theorem lenRun {Ex : Value → Shared → Prop} {A : Around} {pins : List (Addr × Obj)} {σ : L2.St} {H : Hp} {s : Shared} {Q : VK} {a dx : Addr} {fs : List (Str × V)} (F : FnR X.prog X.w X.K X.mg X.base (L2.CX X.prog X.w) k f sp) (S : Spc X.K C "__len__" f) (hr : Room k A.in1) (e0 : Env0 X.prog X.w X.K X.mg X.base A.in1 X.stack s H)
    (I : Inv X pins σ H s) (ea : H a = some (.ins C dx fs)) (h : sp [.ref a] H (fun v H' => ∃ n : Int, v = .int n ∧ (0 ≤ n ∧ n < 2 ^ 63) ∧ Q (.int n) H') (fun _ _ _ => False)) :
    wpAny (model X.prog X.w) A (call (.builtin "len") [.ref a]) (fun v s' => ∃ n t, v = .int n t ∧ (0 ≤ n ∧ n < 2 ^ 63) ∧ ∃ H', Inv X pins σ H' s' ∧ Q (.int n) H') Ex s := by
  obtain ⟨ox, od, Ja⟩ := instAt I ea
  obtain ⟨m, fr⟩ := I.fr
  refine PySem.W.len_K fr I.ok.mod.kin Ja S.at_ S.fn (wpAny_call (codeAny_mono (F A.in1 X.stack s H [.ref a] [.ref a] _ (fun _ _ _ => False) hr e0 (.cons rfl .nil) h) fun q s' hq => ?_))
  rcases q with e | fl
  · exact (cxN hq).elim
  rcases fl with _ | _ | _ | u'
  · exact False.elim hq
  · exact False.elim hq
  · exact False.elim hq
  obtain ⟨v', H', J', rv, n, ev, hn, q⟩ := I.after hq
  subst ev
  obtain ⟨t, rfl⟩ := rv
  exact ⟨hn, n, _, rfl, hn, H', J'.tok _, q⟩
theorem z_lenOwn (c : CalO X.prog X.w X.K X.mg X.base C "__len__" k sp) (hr : Room j X.A) (hj : k + 1 ≤ j := by decide) : CallR X (.builtin "len") (rLenOwn C sp) := by
  intro pins s σ H xs us Q I r h
  obtain ⟨f, S, sf, F⟩ := c
  obtain ⟨a, dx, fs, rfl, ea, h⟩ := h
  obtain rfl := Vals.ref1 r
  refine wpAny_mono (lenRun F S (hr.mono hj).in1 I.env0.in1 I ea h) (fun v s' hv => ?_) fun _ _ z => z
  obtain ⟨n, t, rfl, _, H', I', q⟩ := hv
  exact ⟨.int n, H', I', ⟨t, rfl⟩, q⟩
/-- iter(t), a tuple: an iterator at its start -/
def TupIt (q t : Addr) (i : Nat) : HO := .ext fun h => h.IsTupleIter q t i
theorem tupIt_ok {P : Program} {w : World} {H : Hp} {h : Heap} {q t : Addr} {i : Nat} (e : h.IsTupleIter q t i) : ObjOk P w H h q (TupIt q t i) := by
  obtain ⟨o, ho, hc, hd⟩ := id e
  refine ⟨e, ⟨o, ho⟩, fun h1 h2 ⟨o1, e1, c1, d1⟩ k => ⟨o1, k _ e1, c1, d1⟩⟩
def rIterT (K : PySem.W.Frag) : List V → Hp → VK → Prop := fun xs H Q => ∃ t ys, xs = [.ref t] ∧ SqT K H t ys ∧ ∀ q, H q = none → Q (.ref q) (upd H q (TupIt q t 0))
theorem cr_iterT : CallR X (.builtin "iter") (rIterT X.K) := by
  intro pins s σ H xs us Q I r h
  obtain ⟨t, ys, rfl, ht, h⟩ := h
  obtain rfl := Vals.ref1 r
  obtain ⟨its, rv, hl, _⟩ := I.tuple ht
  refine Calls.call_function_entry (by decide +kernel) (by decide +kernel) PySem.W.kdk_entry_iter (PySem.W.kdk_args_iter _) ?_
  unfold Builtin.«iter»
  refine wpAny_bind (m := someArgs "iter" 1 2 _) (wpAny_of_eq (a := [Value.ref t]) (by first | rfl | kernel_rfl!) ?_)
  show wpAny _ _ (pyIter (.ref t) >>= _) _ _ _
  refine wpAny_bind (wpAny_pyIter_tuple hl ?_)
  refine wpAny_pure ⟨_, rfl, .ref s.heap.objs.size, _, I.laid (a := s.heap.objs.size) (o := TupIt s.heap.objs.size t 0) (t' := s.toks) (fun b o e => Heap.get?_push_of_some _ e) (Nat.le_refl _) (tupIt_ok ⟨_, Heap.get?_push_size _ rfl, rfl, rfl⟩), rfl, h _ (I.hok.fresh (Nat.le_refl _))⟩
/-- what is known of an iterator that is used up: it stands -/
def DeadIt (q : Addr) : HO := .ext fun h => ∃ o, h.get? q = some o
theorem deadIt_ok {P : Program} {w : World} {H : Hp} {h : Heap} {q : Addr} (e : ∃ o, h.get? q = some o) : ObjOk P w H h q (DeadIt q) := ⟨e, e, fun h1 h2 ⟨o1, e1⟩ k => ⟨o1, k _ e1⟩⟩
theorem nextEnd {prog : Program} {w : World} {A : Around} {E : Value → Shared → Prop} {s : Shared} {q t : Addr} {i : Nat} {its : Array Value} {Q : Option Value → Shared → Prop} (calm : A.handled = none)
    (hit : s.heap.IsTupleIter q t i) (ht : s.heap.IsTuple t its) (out : its[i]? = none) (hQ : ∀ h', (∀ b o, b ≠ q → s.heap.get? b = some o → h'.get? b = some o) → (∃ o, h'.get? q = some o) → Q none { s with heap := h' }) :
    wpAny (model prog w) A (pyNext (.ref q)) Q E s := by
  obtain ⟨ob, ho, hc, hd⟩ := id hit
  obtain ⟨ot, hot, _, nn, hdt⟩ := ht
  have st : ∃ o, (s.heap.update q (Obj.mapFields (·.setIfInBounds 0 Value.none))).get? q = some o := ⟨_, Heap.get?_update_self _ ho (Obj.isFreed_of_fields (Obj.data_mapFields hd _))⟩
  have ot2 : ∀ b o, b ≠ q → s.heap.get? b = some o → (s.heap.update q (Obj.mapFields (·.setIfInBounds 0 Value.none))).get? b = some o := fun b o hb e => (Heap.get?_update_other s.heap _ (Ne.symm hb)).trans e
  unfold pyNext
  refine wpAny_bind (wpAny_attempt (wpAny_callSpecial?_slot (name := Str.ofString "__next__") hit.typeIs F.slot_tuple_iterator_next (wpAny_call_entry F.slot_tuple_iterator_next hit.typeIs F.entry_tuple_iterator_next ?_
    (F.args_tuple_iterator_next_1 _))))
  show wpAny _ _ (field (.ref q) 0 >>= _) _ _ s
  refine wpAny_bind (wpAny_field ho hd (x := .ref t) rfl ?_); show wpAny _ _ (if (Value.ref t == Value.none) = true then _ else _) _ _ s
  rw [if_neg (show ¬ ((Value.ref t == Value.none) = true) from Bool.false_ne_true)]; show wpAny _ _ (field (.ref q) 1 >>= _) _ _ s
  refine wpAny_bind (wpAny_field ho hd (x := .int i 0) rfl ?_); show wpAny _ _ (seqItems? (.ref t) >>= _) _ _ s
  refine wpAny_bind (wpAny_seqItems hot hdt ?_); simp only [Int.toNat_natCast, out]
  refine wpAny_bind (wpAny_rule (wpAny_bind (wpAny_setField ho hd (by simp) ?_))); show wpAny _ _ (newExc (.type "StopIteration") [] >>= _) _ _ _
  refine wpAny_bind ?_; simp only [newExc, newTuple]
  refine wpAny_bind (wpAny_newObj_type ?_ (by size_fits)); refine wpAny_bind (m := firstArgMember _ _) (wpAny_of_eq (a := Value.none) (by first | rfl | (simp only [firstArgMember]; rfl)) ?_)
  refine wpAny_newObj_type ?_ (by size_fits); simp only [raiseNew]
  refine wpAny_bind (wpAny_handled ?_); first | rw [show A.in1.handled = none from calm] | rw [calm]
  refine wpAny_bind (wpAny_pure (wpAny_throw ?_)); refine wpAny_bind (wpAny_isInstance (T := "StopIteration") (b := true) ⟨_, Heap.get?_push_size _ rfl, rfl⟩ isSubtype_stop ?_)
  refine wpAny_pure (hQ _ (fun b o hb e => Heap.get?_push_of_some _ (Heap.get?_push_of_some _ (ot2 b o hb e))) ?_)
  obtain ⟨o, e⟩ := st
  exact ⟨o, Heap.get?_push_of_some _ (Heap.get?_push_of_some _ e)⟩
/-- the walk of a tuple's iterator at q that fills the list at l -/
theorem fillLoop {pins : List (Addr × Obj)} {σ : L2.St} {H : Hp} {q t l : Addr} {ys : List V} {A1 : Around} {Rs : Result → Shared → Prop} (calm : A1.in1.handled = none) (hl : H l = none) (hq : H q = none) (ht : SqT X.K H t ys) (hz : ys.length < 1000) (hlq : l ≠ q)
    (done : ∀ H' s, Inv X pins σ H' s → Same H H' → H' l = some (.lst ys) → Rs (.ok (.ret .none)) s) :
    ∀ (n i : Nat), i + n = ys.length → ∀ (H' : Hp) (s : Shared), Inv X pins σ H' s → Same H H' → H' l = some (.lst (ys.take i)) → H' q = some (TupIt q t i) → codeAny (model X.prog X.w) A1 (.builtin "list.extend.loop" ⟨[.ref l, .ref q, .none], []⟩) Rs s := by
  intro n
  induction n with
  | zero =>
    intro i hi H' s I sm el eq
    refine codeAny_builtin PySem.F.entry_extend_loop ?_
    rw [Around.under_plainId PySem.F.plain_extend_loop _]
    show wpAny _ A1.in1 (pyNext (.ref q) >>= _) _ _ s
    obtain ⟨its, rv, p, _⟩ := I.tuple (Same_seqT sm ht)
    have hit : s.heap.IsTupleIter q t i := (I.hok q _ eq).1
    have out : its.toArray[i]? = none := by
      have := rv.length
      simp
      omega
    refine wpAny_bind (nextEnd calm hit p out fun h' kp ex => wpAny_pure ?_)
    have I2 := I.write (x := q) (e := q) (o := DeadIt q) (h' := h') (t' := s.toks) (by rw [eq]; exact trivial) (.inl rfl) kp ex (deadIt_ok ex)
    refine done _ _ I2 (fun b o e => ?_) ?_
    · rw [upd_ne (ne_of_none e hq)]
      exact sm _ _ e
    · rw [upd_ne hlq, el, List.take_of_length_le (by omega)]
  | succ n ih =>
    intro i hi H' s I sm el eq
    refine codeAny_builtin PySem.F.entry_extend_loop ?_
    rw [Around.under_plainId PySem.F.plain_extend_loop _]
    show wpAny _ A1.in1 (pyNext (.ref q) >>= _) _ _ s
    obtain ⟨its, rv, p, _⟩ := I.tuple (Same_seqT sm ht)
    have hit : s.heap.IsTupleIter q t i := (I.hok q _ eq).1
    have hlen := rv.length
    have lt : i < ys.length := by omega
    obtain ⟨u, hu, ru⟩ := rv.get (List.getElem?_eq_getElem lt)
    have hx : its.toArray[i]? = some u := by simpa using hu
    refine wpAny_bind (wpAny_pyNext_tuple_item hit p hx fun h' hit' sb => ?_)
    have ex : ∃ o, h'.get? q = some o := let ⟨o, e, _⟩ := hit'; ⟨o, e⟩
    have I2 := I.write (x := q) (e := q) (o := TupIt q t (i + 1)) (h' := h') (t' := s.toks) (by rw [eq]; exact trivial) (.inl rfl) (fun b o hb e => sb.extBut b o hb e) ex (tupIt_ok hit')
    show wpAny _ A1.in1 (updateSeq l (·.push u) >>= _) _ _ _
    have el2 : upd H' q (TupIt q t (i + 1)) l = some (.lst (ys.take i)) := by rw [upd_ne hlq]; exact el
    obtain ⟨z, ls, kk, r2, hl2, e2⟩ := I2.lstM el2
    have hti : (ys.take i).length = i := by rw [List.length_take]; omega
    have h1000 : (1000 : Nat) < sizeLine := by rw [sizeLine_eq]; decide
    refine wpAny_bind (wpAny_updateSeq e2 rfl (wpAny_pure ⟨plainId_quiet PySem.F.plain_extend_loop _, ?_⟩) (by rw [List.size_toArray]; omega) (by show (ls.toArray.push u).size ≤ sizeLine + 1; rw [Array.size_push, List.size_toArray]; omega))
    have tk : ys.take (i + 1) = ys.take i ++ [ys[i]] := by rw [List.take_add_one, List.getElem?_eq_getElem lt]; rfl
    refine ih (i + 1) (by omega) _ _ (I2.lset (its' := ls ++ [u]) (ys := ys.take i ++ [ys[i]]) (t' := s.toks) el2 e2 (by simp) (r2.append (.cons ru .nil)) (by rw [List.length_append, List.length_singleton]; omega)) (fun b o e => ?_) ?_ ?_
    · rw [upd_ne (ne_of_none e hl), upd_ne (ne_of_none e hq)]
      exact sm _ _ e
    · rw [upd_same, tk]
    · rw [upd_ne (Ne.symm hlq), upd_same]
/-- list(o), where __iter__ hands back iter of a tuple, and __len__ says how long that is -/
def rListOwn (K : PySem.W.Frag) (C : Addr) (spI spL : Sp) : List V → Hp → VK → Prop := fun xs H Q => ∃ a dx fs t ys, xs = [.ref a] ∧ H a = some (.ins C dx fs) ∧ SqT K H t ys ∧ ys.length < 1000 ∧
  (∀ H1, Same H H1 → spI [.ref a] H1 (fun v H2 => ∃ q, v = .ref q ∧ H1 q = none ∧ H2 = upd H1 q (TupIt q t 0)) fun _ _ _ => False) ∧
  (∀ H1, Same H H1 → spL [.ref a] H1 (fun v H2 => ∃ n : Int, v = .int n ∧ (0 ≤ n ∧ n < 2 ^ 63) ∧ (fun v H' => v = V.int ys.length ∧ Same H1 H') (V.int n) H2) fun _ _ _ => False) ∧
  ∀ l H', H l = none → Same H H' → H' l = some (.lst ys) → Q (.ref l) H'
theorem z_listOwn {spI spL : Sp} {kI kL : Nat} (hc : X.calm = true) (cI : CalO X.prog X.w X.K X.mg X.base C "__iter__" kI spI) (cL : CalO X.prog X.w X.K X.mg X.base C "__len__" kL spL) (hr : Room j X.A) (hI : kI + 2 ≤ j := by decide) (hL : kL + 3 ≤ j := by decide) :
    CallR X (.type "list") (rListOwn X.K C spI spL) := by
  intro pins s σ H xs us Q I rv h
  obtain ⟨a, dx, fs, t, ys, rfl, ha, ht, hz, pI, pL, q⟩ := h
  obtain ⟨u, rfl, ru⟩ := rv.one
  cases ru
  obtain ⟨fI, SI, _, FI⟩ := cI
  obtain ⟨fL, SL, _, FL⟩ := cL
  refine callType_codes (Q₁ := fun obj s₁ => obj = .ref s.heap.objs.size ∧ s₁ = { s with heap := s.heap.push { cls := .type "list", data := .seq #[] } }) PySem.F.called_list (PySem.F.typeCall_list_1 _) PySem.F.entry_list_init (code_list_new _ ⟨rfl, rfl⟩) fun obj s₁ h₁ => ?_
  obtain ⟨rfl, rfl⟩ := h₁
  have hS : (s.heap.push { cls := .type "list", data := .seq #[] }).get? s.heap.objs.size = some { cls := .type "list", data := .seq #[] } := Heap.get?_push_size _ rfl
  refine ⟨⟨_, hS, rfl⟩, PySem.F.args_list_init_2 _ _, ?_⟩
  have fr : H s.heap.objs.size = none := I.hok.fresh (Nat.le_refl _)
  generalize hl : s.heap.objs.size = l at *
  have I1 : Inv X pins σ (upd H l (.lst [])) { s with heap := s.heap.push { cls := .type "list", data := .seq #[] } } := by
    rw [← hl]
    exact I.lnew (its := []) (t' := s.toks) .nil (Nat.zero_le _)
  show wpAny _ _ (do let old ← Builtin.List.listItems (.ref l); Builtin.List.listUpdate (.ref l) (fun _ => #[]); letGo old.toList.reverse; Builtin.List.listExtendWith (.ref l) (.ref a) .none) _ _ _
  refine wpAny_bind ?_
  unfold Builtin.List.listItems
  refine wpAny_bind (wpAny_seqItems hS rfl (wpAny_pure ?_))
  show wpAny _ _ (updateSeq l (fun _ => #[]) >>= fun _ => letGo (#[] : Array Value).toList.reverse >>= fun _ => Builtin.List.listExtendWith (.ref l) (.ref a) .none) _ _ _
  refine wpAny_bind (wpAny_updateSeq hS rfl ?_)
  have I2 := I1.lset (f := fun _ => #[]) (its := []) (its' := []) (ys := []) (t' := s.toks) upd_same hS rfl .nil (Nat.zero_le _)
  rw [upd_upd] at I2
  refine wpAny_bind (wpAny_letGo ?_)
  have s1 : Same H (upd H l (.lst [])) := fun b o e => by rw [upd_ne (ne_of_none e fr)]; exact e
  have ha2 := s1 _ _ ha
  have hne : l ≠ a := Ne.symm (ne_of_none ha fr)
  obtain ⟨ox, od, J⟩ := instAt I2 ha2
  obtain ⟨m0, hF⟩ := I2.fr
  unfold Builtin.List.listExtendWith
  refine wpAny_bind (J.type.here ?_)
  have h1 : Builtin.List.listSameRef (.ref l) (.ref a) = false := by simp [Builtin.List.listSameRef, hne]
  have h2 : (Value.ref C == Value.type "list") = false := rfl
  have h3 : (Value.ref C == Value.type "tuple") = false := rfl
  simp only [h1, h2, h3, Bool.or_false, Bool.false_eq_true, if_false]
  have hrI : Room kI X.A.in1.in1 := ((hr.mono hI).in1).in1
  have hrL : Room kL X.A.in1.in1.in1 := (((hr.mono hL).in1).in1).in1
  refine wpAny_bind (PySem.W.owit_iter hF I2.ok.mod.kin J SI.at_ SI.fn ?_)
  refine wpAny_call (codeAny_mono (FI X.A.in1.in1 X.stack _ _ [.ref a] [.ref a] _ (fun _ _ _ => False) hrI I2.env0.in1.in1 (.cons rfl .nil) (pI _ s1)) fun r s' hq' => ?_)
  rcases r with e | fl
  · exact (cxN hq').elim
  rcases fl with _ | _ | _ | u'
  · exact False.elim hq'
  · exact False.elim hq'
  · exact False.elim hq'
  obtain ⟨v', H3, I3, rv3, q0, ev, hq0, eH⟩ := I2.after hq'
  subst ev
  obtain rfl : u' = Value.ref q0 := rv3
  have hq1 : H q0 = none := by
    cases e : H q0 with
    | none => rfl
    | some o => rw [s1 _ _ e] at hq0; cases hq0
  have s2 : Same (upd H l (.lst [])) H3 := fun b o e => by rw [eH, upd_ne (ne_of_none e hq0)]; exact e
  have eq3 : H3 q0 = some (TupIt q0 t 0) := by rw [eH, upd_same]
  have hit : s'.heap.IsTupleIter q0 t 0 := (I3.hok q0 _ eq3).1
  unfold PySem.W.OwitIt
  refine wpAny_bind (wpAny_typeOf hit.typeIs (wpAny_of_eq PySem.F.slot_tuple_iterator_next.lookup ?_))
  refine wpAny_bind (wpAny_holding ?_)
  -- the length
  have e3 : H3 l = some (.lst []) := s2 _ _ upd_same
  have ha3 := s2 _ _ ha2
  obtain ⟨ox3, od3, J3⟩ := instAt I3 ha3
  unfold Builtin.List.listLengthHint
  refine wpAny_bind (wpAny_bind (J3.type.here ((PySem.W.looks_findIn I3.kIn SL.at_).here ?_)))
  dsimp only
  refine PySem.W.KFB.if_not rfl ?_
  refine PySem.W.KFB.if_so rfl ?_
  refine wpAny_bind (wpAny_rule ?_)
  refine wpAny_bind (wpAny_attempt (wpAny_mono (lenRun (Ex := fun _ _ => False) (Q := fun v H' => v = V.int ys.length ∧ Same H3 H') FL SL hrL I3.env0.in1.in1.in1 I3 ha3 (pL _ (s1.trans s2))) (fun v s'' hv => ?_) fun e s'' he => ?_))
  · obtain ⟨n, tn, rfl, hn, H4, I4, en, s4⟩ := hv
    injection en with en
    subst en
    have long : Builtin.List.listTooLong ((ys.length : Nat) : Int).toNat = false := by
      unfold Builtin.List.listTooLong
      rw [sizeLine_eq] at *
      simp
      omega
    dsimp only
    refine wpAny_bind (m := asInt? _) (wpAny_of_eq (a := some ((ys.length : Nat) : Int)) rfl ?_)
    dsimp only
    refine PySem.W.KFB.if_not long ?_
    refine wpAny_pure ?_
    have e4 := s4 _ _ e3
    have eq4 := s4 _ _ eq3
    have hlq : l ≠ q0 := ne_of_none upd_same hq0
    have loop : ∀ (H5 : Hp) (s5 : Shared), Inv X pins σ H5 s5 → Same H H5 → H5 l = some (.lst []) → H5 q0 = some (TupIt q0 t 0) → codeAny (model X.prog X.w) X.A.in1 (.builtin "list.extend.loop" ⟨[.ref l, .ref q0, .none], []⟩) (wants (fun r s₂ => r = .none ∧ EP X pins σ Q (.ref l) s₂) X.xe) s5 := fun H5 s5 I5 sm el eq =>
      fillLoop (show X.A.in1.in1.handled = none from I.ok.hd hc) fr hq1 ht hz hlq (fun H' s' I' sm el => ⟨rfl, .ref l, H', I', rfl, q l H' fr sm el⟩) ys.length 0 (by omega) H5 s5 I5 sm (by rw [List.take_zero]; exact el) eq
    obtain ⟨z, its, kk, r3, hl3, e5⟩ := I4.lstM e4
    cases r3
    have s14 : Same H H4 := (s1.trans s2).trans s4
    refine wpAny_ite_split (fun _ => ?_) (fun _ => wpAny_pure ⟨plainId_quiet PySem.F.plain_extend_loop _, loop H4 _ I4 s14 e4 eq4⟩)
    refine wpAny_bind (wpAny_rule ?_)
    refine wpAny_bind ?_
    show wpAny _ _ (updateSeq l (·.push .none) >>= fun _ => updateSeq l (·.pop)) _ _ _
    refine wpAny_bind (wpAny_updateSeq e5 rfl ?_)
    have I6 := I4.lset (f := (·.push Value.none)) (its' := [Value.none]) (ys := [.non]) (t' := s''.toks) e4 e5 (by simp) (.cons rfl .nil) (by rw [List.length_singleton, sizeLine_eq]; decide)
    obtain ⟨z4, its4, k4, r4, hl4, e6⟩ := I6.lstM upd_same
    obtain ⟨u4, rfl, ru4⟩ := r4.one
    refine wpAny_updateSeq e6 rfl ?_ (by show 1 ≤ sizeLine; rw [sizeLine_eq]; decide) (by show 0 ≤ sizeLine + 1; exact Nat.zero_le _)
    refine wpAny_pure ⟨plainId_quiet PySem.F.plain_extend_loop _, loop H4 _ ?_ s14 e4 eq4⟩
    have I7 := I6.lset (f := (·.pop)) (its := [u4]) (its' := []) (ys := []) (t' := s''.toks) upd_same e6 (by rfl) .nil (Nat.zero_le _)
    rw [upd_upd] at I7
    have hH : upd H4 l (.lst []) = H4 := by
      funext b
      by_cases hb : b = l
      · rw [hb, upd_same, e4]
      · rw [upd_ne hb]
    rw [hH] at I7
    exact I7
  · exact he.elim
end
end Z

set_option Elab.async false
set_option linter.all false
set_option maxRecDepth 100000
set_option maxHeartbeats 4000000
/-! {**a, **b}; sorted of a tuple of texts; == of dicts of tuples -/
namespace Z
open PySem PySem.Spec PyProof.Rows L2
section
variable {P : Program} {w : World} {A : Around} {E : Value → Shared → Prop} {s : Shared}
theorem putDict {d : Addr} {kvs : List (Key × Value)} {k : Key} {key v : Value} {Q : Unit → Shared → Prop} (hkey : (mixKind P w).is k key = true) (hm : s.heap.DictOf (mixKind P w) d kvs)
    (hQ : ∀ h', h'.DictOf (mixKind P w) d (stored kvs k v) → Heap.SameBut d s.heap h' → Q () { s with heap := h' }) (hsz : kvs.length ≤ sizeLine) :
    wpAny (model P w) A (dictPut d ((mixKind P w).hash k) key v) Q E s := by
  obtain ⟨o, es, ep, ho, hc, hd, hk, hp, hn⟩ := hm
  have hes : es.size ≤ sizeLine := by
    have e1 := hp.length
    have e2 : es.toList.length = es.size := by simp
    omega
  unfold dictPut
  refine wpAny_bind (wpAny_dictFind_of hkey ho hd hk ?_)
  have hidx : (es.findIdx? fun e => (mixKind P w).is k e.key) = kvs.findIdx? fun kv => decide (kv.1 = k) := by rw [← hp.findIdx k]; obtain ⟨l⟩ := es; simp
  cases hi : es.findIdx? fun e => (mixKind P w).is k e.key with
  | some i =>
    refine wpAny_updateDict ho hd (hQ _ ⟨_, _, ep, Heap.get?_update_self _ ho (Obj.isFreed_of_dict (Obj.data_mapDict hd _)), hc.mapDict _, Obj.data_mapDict hd _, hk.modify _ _, ?_, ?_⟩ (Heap.SameBut.update ..))
    · rw [stored, if_pos (any_of_findIdx_some (hidx ▸ hi))]
      have hl : (es.toList.findIdx? fun e => (mixKind P w).is k e.key) = some i := by rw [← hi]; obtain ⟨l⟩ := es; simp
      have := hp.modify hn hl v
      obtain ⟨l⟩ := es
      simpa using this
    · rw [stored, if_pos (any_of_findIdx_some (hidx ▸ hi)), keys_map_store]; exact hn
  | none =>
    have hnot : k ∉ kvs.map (·.1) := not_mem_of_findIdx_none (hidx ▸ hi)
    have hany : ¬ (kvs.any fun kv => decide (kv.1 = k)) = true := by
      rw [List.any_eq_true]; rintro ⟨kv, hkv, he⟩; exact hnot (List.mem_map.mpr ⟨kv, hkv, of_decide_eq_true he⟩)
    refine wpAny_updateDictKeys (hz := hes) ho hd (hQ _ ⟨_, _, ep + 1, Heap.get?_update_self _ ho (Obj.isFreed_of_dict (Obj.data_mapDictKeys hd _)), hc.mapDictKeys _, Obj.data_mapDictKeys hd _, hk.push hkey _, ?_, ?_⟩ (Heap.SameBut.update ..))
    · rw [stored, if_neg hany]
      have := hp.append hkey ((mixKind P w).hash k) v
      obtain ⟨l⟩ := es
      simpa using this
    · rw [stored, if_neg hany, List.map_append, List.nodup_append]
      refine ⟨hn, by simp, ?_⟩
      intro a ha b hb
      simp only [List.map_cons, List.map_nil, List.mem_singleton] at hb
      subst hb
      exact fun e => hnot (e ▸ ha)
theorem iteBoth {α : Type} {M : Model} {A : Around} {E : Value → Shared → Prop} {s : Shared} {c : Bool} {a b : Sem α} {Q : α → Shared → Prop} (hb : wpAny M A b Q E s) (ha : wpAny M A b Q E s → wpAny M A a Q E s) : wpAny M A (if c = true then a else b) Q E s := by
  cases c
  · exact hb
  · exact ha hb
theorem mergeIn {d o : Addr} {kvs more : List (Key × Value)} {Q : Unit → Shared → Prop} (hdo : d ≠ o) (hoS : (o == sysModules) = false) (hd : s.heap.DictOf (mixKind P w) d kvs) (ho : s.heap.DictOf (mixKind P w) o more)
    (hQ : ∀ h', h'.DictOf (mixKind P w) d (merged kvs more) → Heap.SameBut d s.heap h' → Q () { s with heap := h' }) (hsz : kvs.length + more.length ≤ sizeLine) :
    wpAny (model P w) A (mergeMapping d (.ref o) false) Q E s := by
  obtain ⟨od, esd, epd, hod, hcd, hdd, hkd, hpd, hnd⟩ := id hd
  obtain ⟨oo, eso, epo, hoo, hco, hdo', hko, hpo, hno⟩ := id ho
  have hlen : more.length = eso.size := by rw [← hpo.length]; simp
  unfold mergeMapping
  refine wpAny_bind (wpAny_isInstance (T := "dict") ho.typeIs PySem.F.sub_dict_dict ?_)
  refine PySem.W.KFB.if_so rfl ?_
  refine wpAny_bind (wpAny_specialOf ho.typeIs PySem.F.slot_dict_iter.lookup ?_)
  refine wpAny_bind (wpAny_of_eq (a := true) (by rw [show (some (Value.builtin "dict.__iter__") == some (Value.builtin "dict.__iter__")) = true by decide]) ?_)
  dsimp only
  refine PySem.W.KFB.if_not (by rw [hoS]) ?_
  refine wpAny_bind (wpAny_dictEntries hod hdd ?_)
  refine iteBoth ?_ fun loop => ?_
  · refine wpAny_bind (wpAny_dictEntries hoo hdo' (wpAny_bind (wpAny_dictEpoch hoo hdo' (wpAny_bind ?_))))
    refine wpAny_forIn_list _ (fun rest _ s' => ∃ h' i, s' = { s with heap := h' } ∧ rest = List.range' i (eso.size - i) ∧ i ≤ eso.size ∧ h'.DictOf (mixKind P w) d (merged kvs (more.take i)) ∧ h'.get? o = some oo ∧ Heap.SameBut d s.heap h') _ ?_ ?_ _ _ ⟨s.heap, 0, rfl, by rw [List.range_eq_range']; rfl, Nat.zero_le _, hd, hoo, Heap.SameBut.refl _ _⟩
    · rintro x rest b s' ⟨h', i, rfl, hr, hi, hd', hoo', hs'⟩
      have hlt : i < eso.size := by
        rcases Nat.lt_or_ge i eso.size with h | h
        · exact h
        · rw [Nat.sub_eq_zero_of_le h] at hr; simp at hr
      obtain ⟨rfl, hrest⟩ : x = i ∧ rest = List.range' (i + 1) (eso.size - (i + 1)) := by
        have e : eso.size - i = (eso.size - (i + 1)) + 1 := by omega
        rw [e, List.range'_succ] at hr
        injection hr with h1 h2; exact ⟨h1, h2⟩
      refine wpAny_bind (wpAny_dictEntries hoo' hdo' ?_)
      rw [Array.getElem?_eq_getElem hlt]
      obtain ⟨kv, hkv⟩ : ∃ kv, more[x]? = some kv := ⟨more[x]'(by rw [hlen]; exact hlt), List.getElem?_eq_getElem _⟩
      obtain ⟨k, v⟩ := kv
      obtain ⟨hkey, hval⟩ := hpo.get? (e := eso[x]) (by simp [hlt]) hkv
      obtain ⟨k', hkey', hhash⟩ := hko eso[x] (Array.getElem_mem hlt)
      obtain rfl : k' = k := (mixKind P w).inj _ _ _ hkey' hkey
      refine wpAny_bind (wpAny_holding ?_)
      refine PySem.W.KFB.if_not rfl ?_
      rw [hhash, hval]
      have hmx : (merged kvs (more.take x)).length ≤ sizeLine := by
        have e1 := merged_length_le kvs (more.take x)
        have e2 : (more.take x).length ≤ more.length := by rw [List.length_take]; omega
        omega
      refine putDict hkey hd' (fun h'' hd'' hs'' => ?_) hmx
      have hoo'' : h''.get? o = some oo := (hs''.2 o (Ne.symm hdo)).trans hoo'
      refine wpAny_bind (wpAny_dictEpoch hoo'' hdo' ?_)
      rw [if_neg (by simp)]
      refine wpAny_pure ⟨h'', x + 1, rfl, hrest, hlt, ?_, hoo'', hs'.trans hs''⟩
      rw [merged_take_succ kvs more x (k', v) hkv]
      exact hd''
    · rintro b s' ⟨h', i, rfl, hr, hi, hd', hoo', hs'⟩
      have hin : i = eso.size := by
        rcases Nat.lt_or_ge i eso.size with h | h
        · have e : eso.size - i = (eso.size - (i + 1)) + 1 := by omega
          rw [e, List.range'_succ] at hr; exact nomatch hr
        · exact Nat.le_antisymm hi h
      rw [hin, ← hlen, List.take_length] at hd'
      exact wpAny_pure (hQ h' hd' hs')
  · refine wpAny_bind (wpAny_dictEntries hoo hdo' (wpAny_bind ?_))
    rw [← Array.forIn_toList]
    refine wpAny_forIn_list _ (fun rest _ s' => s' = s ∧ ∀ e ∈ rest, e ∈ eso) _ ?_ ?_ _ _ ⟨rfl, fun e h => by simpa using h⟩
    · rintro e rest b s' ⟨rfl, hm⟩
      obtain ⟨k, hk, _⟩ := hko e (hm e List.mem_cons_self)
      have hm' : ∀ e ∈ rest, e ∈ eso := fun e h => hm e (List.mem_cons_of_mem _ h)
      rcases keyIs_shape hk with ⟨i, t, _, ek⟩ | ⟨x, t, _, ek⟩
      · rw [ek]
        exact wpAny_pure ⟨rfl, hm'⟩
      · rw [ek]
        exact wpAny_pure ⟨rfl, hm'⟩
    · rintro b s' ⟨rfl, _⟩
      exact loop
end
/-- {**a, **b}: two dicts with keys ints and texts -/
def tMerge2 (t1 t2 : TE) : TE := fun σ H Q => ∀ p, H p = Option.none → t1 σ (upd H p (.dK [])) fun x H1 => ∃ a ks, x = .ref a ∧ p ≠ a ∧ H1 a = some (.dK ks) ∧ H1 p = some (.dK []) ∧ ks.length ≤ 1000 ∧
  t2 σ (upd H1 p (.dK (mergeK [] ks))) fun y H2 => ∃ b ls, y = .ref b ∧ p ≠ b ∧ H2 b = some (.dK ls) ∧ H2 p = some (.dK (mergeK [] ks)) ∧ ls.length ≤ 1000 ∧ Q (.ref p) (upd H2 p (.dK (mergeK (mergeK [] ks) ls)))
section
variable {X : Cx} {pos : Pos} {e1 e2 : Expr} {t1 t2 : TE} {pins : List (Addr × Obj)} {σ : L2.St} {H : Hp} {s : Shared}
theorem mergeStep {p a : Addr} {kvs ks : List (Key × V)} {E : Value → Shared → Prop} {Q : Unit → Shared → Prop} (I : Inv X pins σ H s) (hne : p ≠ a) (ha : H a = some (.dK ks)) (hp : H p = some (.dK kvs)) (z1 : kvs.length ≤ 1000) (z2 : ks.length ≤ 1000)
    (h : ∀ s', Inv X pins σ (upd H p (.dK (mergeK kvs ks))) s' → Q () s') : wpAny (model X.prog X.w) X.A (mergeMapping p (.ref a) false) Q E s := by
  obtain ⟨_, sa, vs, ra, da⟩ := dk_of I.hok ha
  obtain ⟨_, sp, us, rp, dp⟩ := dk_of I.hok hp
  have l1 := ra.length
  have l2 := rp.length
  have big : (3000 : Nat) ≤ sizeLine := by rw [sizeLine_eq]; decide
  refine mergeIn hne sa dp da (fun h' dd hs => h _ ?_) (by omega)
  have he : ∃ q, h'.get? p = some q := let ⟨q, _, _, hq, _⟩ := dd; ⟨q, hq⟩
  have hz := length_mergeK ks kvs
  exact d_write I (by rw [hp]; exact True.intro) hs he (dk_new (by omega) sp (ra.merge rp) dd)
theorem pe_merge2 (h1 : PE X e1 t1) (h2 : PE X e2 t2) : PE X (.Dict [Option.none, Option.none] [e1, e2] pos) (tMerge2 t1 t2) := by
  refine ⟨fun pins s σ H Q I q => ?_⟩
  have hn := I.hok.fresh (Nat.le_refl s.heap.objs.size)
  have I1 := I.laid (a := s.heap.objs.size) (o := .dK []) (h' := s.heap.push { cls := .type "dict", data := .dict #[] }) (t' := s.toks) (fun _ _ q => Heap.get?_push_of_some _ q) (Nat.le_refl _) (dk_empty s.heap I.big)
  have q1 := q _ hn
  generalize hp : s.heap.objs.size = p at *
  rw [arm_eval_Dict]
  refine wpAny_bind (wpAny_standAt ?_)
  show wpAny _ _ (dictDisplay [(Option.none, (do let x ← eval e1 X.env; standAt pos; pure x)), (Option.none, (do let x ← eval e2 X.env; standAt pos; pure x))]) _ _ s
  unfold dictDisplay
  dsimp only
  refine wpAny_bind ?_
  rw [List.forIn_cons]
  refine wpAny_bind ?_
  dsimp only
  refine wpAny_bind (PySem.W.KFB.if_so rfl (wpAny_pure ?_))
  dsimp only
  refine wpAny_bind (wpAny_alloc ?_)
  rw [hp]
  refine wpAny_bind (wpAny_holding (wpAny_bind (thn (h1.run pins _ σ _ _ I1 q1) fun u s1 hh => ?_)))
  obtain ⟨x, H1, I2, rx, a, ks, ex, hne, ha, hpp, z, q2⟩ := hh
  subst ex
  obtain rfl : u = Value.ref a := rx
  refine wpAny_bind (wpAny_standAt (wpAny_pure ?_))
  have h0 : ([] : List (Key × V)).length ≤ 1000 := by decide
  refine wpAny_bind (wpAny_onRaise (wpAny_tryCatch (wpAny_onRaise (wpAny_holding (mergeStep I2 hne ha hpp h0 z fun s2 I3 => ?_)))))
  refine wpAny_pure ?_
  dsimp only
  rw [List.forIn_cons]
  refine wpAny_bind ?_
  dsimp only
  refine wpAny_bind (PySem.W.KFB.if_so rfl (wpAny_pure ?_))
  dsimp only
  refine wpAny_bind (wpAny_pure ?_)
  refine wpAny_bind (wpAny_holding (wpAny_bind (thn (h2.run pins _ σ _ _ I3 q2) fun u s3 hh => ?_)))
  obtain ⟨y, H2, I4, ry, b, ls, ey, hne2, hb, hpp2, z2, q3⟩ := hh
  subst ey
  obtain rfl : u = Value.ref b := ry
  refine wpAny_bind (wpAny_standAt (wpAny_pure ?_))
  have zm : (mergeK [] ks).length ≤ 1000 := by
    have := length_mergeK ks []
    simp only [List.length_nil] at this
    omega
  refine wpAny_bind (wpAny_onRaise (wpAny_tryCatch (wpAny_onRaise (wpAny_holding (mergeStep I4 hne2 hb hpp2 zm z2 fun s4 I5 => ?_)))))
  refine wpAny_pure ?_
  dsimp only
  rw [List.forIn_nil]
  refine wpAny_pure ?_
  refine wpAny_bind (PySem.W.KFB.if_so rfl (wpAny_pure ?_))
  exact wpAny_pure ⟨.ref p, _, I5, rfl, q3⟩
end
end Z

set_option Elab.async false
set_option linter.all false
set_option maxRecDepth 100000
set_option maxHeartbeats 4000000
/-! sorted of a list or a tuple of texts; == of dicts whose values are data; texts in order -/
namespace Z
open PySem PySem.Spec PyProof.Rows L2
/-! ### ascending texts -/
def ltS (a b : Str) : Bool := ltCps a.cps.toList b.cps.toList
theorem ltCps_irr : ∀ l : List Nat, ltCps l l = false
  | [] => rfl
  | x :: l => by
    unfold ltCps
    simp [ltCps_irr l]
theorem ltCps_tri : ∀ l m : List Nat, ltCps l m = false → ltCps m l = false → l = m
  | [], [], _, _ => rfl
  | [], y :: m, h, _ => by simp [ltCps] at h
  | x :: l, [], _, h => by simp [ltCps] at h
  | x :: l, y :: m, h, k => by
    unfold ltCps at h k
    by_cases e1 : x < y
    · simp [e1] at h
    · by_cases e2 : y < x
      · simp [e2] at k
      · have e : x = y := by omega
        subst e
        simp at h k
        rw [ltCps_tri l m h k]
theorem ltS_tri {a b : Str} (h : ltS a b = false) (k : ltS b a = false) : a = b := by
  have := ltCps_tri _ _ h k
  cases a; cases b
  congr 1
  exact Array.toList_inj.mp this
theorem ltCps_tr : ∀ l m n : List Nat, ltCps m l = false → ltCps n m = false → ltCps n l = false
  | [], m, n, _, _ => by cases n <;> rfl
  | x :: l, [], n, h, _ => by simp [ltCps] at h
  | x :: l, y :: m, [], _, h => by simp [ltCps] at h
  | x :: l, y :: m, z :: n, h, k => by
    unfold ltCps at h k ⊢
    by_cases e1 : y < x
    · simp [e1] at h
    · by_cases e2 : z < y
      · simp [e2] at k
      · by_cases e3 : z < x
        · omega
        · simp only [e3, if_false]
          by_cases e4 : x < z
          · simp [e4]
            intro h
            omega
          · have exz : x = z := by omega
            have exy : x = y := by omega
            subst exz; subst exy
            simp at h k ⊢
            exact ltCps_tr l m n h k
theorem risingS_pw : ∀ (l : List Str) (p : Str), risingS p l = true → (∀ x ∈ l, ltS x p = false) ∧ l.Pairwise fun a b => ltS b a = false
  | [], p, _ => ⟨(fun x h => (by cases h)), .nil⟩
  | x :: r, p, h => by
    unfold risingS at h
    rw [Bool.and_eq_true] at h
    obtain ⟨h1, h2⟩ := h
    have h1' : ltS x p = false := by simpa [ltS] using h1
    obtain ⟨a, b⟩ := risingS_pw r x h2
    refine ⟨fun y hy => ?_, List.pairwise_cons.mpr ⟨a, b⟩⟩
    rcases List.mem_cons.mp hy with rfl | hy
    · exact h1'
    · exact ltCps_tr _ _ _ h1' (a y hy)
theorem sortedS_pw {l : List Str} (h : sortedS l = true) : l.Pairwise fun a b => ltS b a = false := by
  cases l with
  | nil => exact .nil
  | cons x r =>
    obtain ⟨a, b⟩ := risingS_pw r x h
    exact List.pairwise_cons.mpr ⟨a, b⟩
/-- texts of the same members that ascend are the same list -/
theorem sort_uniq {l m : List Str} (hp : l.Perm m) (hl : l.Pairwise fun a b => ltS b a = false) (hm : m.Pairwise fun a b => ltS b a = false) : l = m :=
  hp.eq_of_pairwise (fun a b _ _ h k => (ltS_tri k h)) hl hm
noncomputable def srt (l : List Str) : List Str := l.mergeSort fun a b => !ltS b a
theorem srt_perm (l : List Str) : (srt l).Perm l := List.mergeSort_perm l _
theorem srt_pw (l : List Str) : (srt l).Pairwise fun a b => ltS b a = false := by
  have h := List.pairwise_mergeSort (le := fun a b => !ltS b a) (fun a b c h k => ?_) (fun a b => ?_) l
  · exact h.imp fun {a b} h => by simpa using h
  · simp only [Bool.not_eq_true'] at h k ⊢
    exact ltCps_tr _ _ _ h k
  · by_cases h : ltS b a = true
    · by_cases k : ltS a b = true
      · exfalso
        have := ltCps_tr a.cps.toList b.cps.toList a.cps.toList
        -- a < b and b < a: by totality of the order
        have asym : ∀ l m : List Nat, ltCps l m = true → ltCps m l = false := by
          intro l
          induction l with
          | nil => intro m h; cases m <;> rfl
          | cons x l ih =>
            intro m h
            cases m with
            | nil => simp [ltCps] at h
            | cons y m =>
              unfold ltCps at h ⊢
              by_cases e1 : x < y
              · have : ¬ y < x := by omega
                simp [this, e1]
                intro h
                omega
              · by_cases e2 : y < x
                · simp [e1, e2] at h
                  omega
                · have e : x = y := by omega
                  subst e
                  simp at h ⊢
                  exact ih m h
        have := asym _ _ k
        unfold ltS at h
        rw [this] at h
        cases h
      · simp [k]
    · simp [h]
theorem srt_eq {l m : List Str} (hp : m.Perm l) (hs : sortedS m = true) : m = srt l := sort_uniq (hp.trans (srt_perm l).symm) (sortedS_pw hs) (srt_pw l)
theorem srt_congr {l m : List Str} (h : l.Perm m) : srt l = srt m := sort_uniq ((srt_perm l).trans (h.trans (srt_perm m).symm)) (srt_pw l) (srt_pw m)
theorem srt_of_pw {l : List Str} (h : l.Pairwise fun a b => ltS b a = false) : srt l = l := sort_uniq (srt_perm l) (srt_pw l) h
theorem srt_nodup {l : List Str} (h : l.Nodup) : (srt l).Nodup := (srt_perm l).nodup_iff.mpr h
theorem mem_srt {l : List Str} {a : Str} : a ∈ srt l ↔ a ∈ l := (srt_perm l).mem_iff
/-- the members of a rising list that are in another one, sorted, are a filter -/
theorem srt_filter {N l : List Str} {p : Str → Bool} (hN : N.Nodup) (hs : N.Pairwise fun a b => ltS b a = false) (hl : l.Nodup) (h : ∀ a, a ∈ l ↔ a ∈ N ∧ p a = true) : srt l = N.filter p := by
  refine sort_uniq ?_ (srt_pw l) (hs.filter p)
  refine (srt_perm l).trans ((List.perm_ext_iff_of_nodup hl (hN.filter p)).mpr fun a => ?_)
  rw [h, List.mem_filter]
section
variable {X : Cx}
/-- sorted of a list or a tuple of texts -/
def rSortST (K : PySem.W.Frag) : List V → Hp → VK → Prop := fun vs H Q => ∃ (a : Addr) (xs : List Str), vs = [V.ref a] ∧ (SqL K H a (xs.map V.str) ∨ SqT K H a (xs.map V.str)) ∧ xs.length < 64 ∧
  ∀ p H', H p = none → Same H H' → (∀ b, b ≠ p → H' b = H b) → H' p = some (.lst ((srt xs).map V.str)) → Q (.ref p) H'
theorem cr_sortST : CallR X (.builtin "sorted") (rSortST X.K) := by
  intro pins s σ H xs us Q I r q
  obtain ⟨a, ks, ex, hd, h64, q⟩ := q
  subst ex
  obtain ⟨u, eu, rx⟩ := vals1 r
  subst eu
  cases rx
  obtain ⟨its, o, n, T, rv, ho, hc, hT, hdt⟩ : ∃ (its : List Value) (o : Obj) (n : Nat) (T : String), Vals (ks.map V.str) its ∧ s.heap.get? a = some o ∧ o.cls = .type T ∧ (T = "list" ∨ T = "tuple") ∧ o.data = .seq its.toArray n := by
    rcases hd with hd | hd
    · obtain ⟨its, rv, pl, _⟩ := I.list hd
      obtain ⟨o, ho, hc, n, hdt⟩ := pl.isList
      exact ⟨its, o, n, _, rv, ho, hc, .inl rfl, hdt⟩
    · obtain ⟨its, rv, ⟨o, ho, hc, n, hdt⟩, _⟩ := I.tuple hd
      exact ⟨its, o, n, _, rv, ho, hc, .inr rfl, hdt⟩
  have hlen := rv.length
  rw [List.length_map] at hlen
  have hsl : (64 : Nat) < sizeLine := by rw [sizeLine_eq]; decide
  refine Calls.call_function_entry PyProof.Rows.kind_sorted PyProof.Rows.plain_sorted PyProof.Rows.entry_sorted (PyProof.Rows.args_sorted1 _) ?_
  unfold Builtin.«sorted»
  refine wpAny_bind (m := checkCount "sorted" 1 1 _) (wpAny_pure ?_)
  refine wpAny_bind (wpAny_collect_seq a hT ho hc hdt (fun h' hk => ?_) (by rw [List.size_toArray]; omega))
  rw [show its.toArray.toList = its by simp]
  have hS := rv.strs
  have I1 : Inv X pins σ H { s with heap := h' } := I.kept (t' := s.toks) hk
  refine wpAny_bind (wpAny_newList ?_ (by omega))
  have hoL : (h'.push (seqObj "list" its.toArray 0)).get? h'.objs.size = some (seqObj "list" its.toArray 0) := Heap.get?_push_size _ rfl
  show wpAny _ _ _ _ _ { s with heap := h'.push (seqObj "list" its.toArray 0) }
  refine wpAny_bind (wpAny_holding (wpAny_call_entry PyProof.Rows.slot_list_sort ⟨_, hoL, rfl⟩ PyProof.Rows.entry_list_sort (list_sort_treeK strKind_oneLt (s := { s with heap := h'.push (seqObj "list" its.toArray 0) }) hoL hS.keysOf
    (fun v₁ v₂ rest e => keyKind_strs (by rw [← e]; exact hS)) (by omega) fun st' hp hs => ⟨_, rfl, ?_⟩) (PyProof.Rows.args_list_sort _)))
  obtain ⟨ys, g1, g2, g3⟩ := sorted_out_str hS hp hs
  obtain rfl := srt_eq g2 g3
  obtain ⟨e', he'⟩ := PyProof.Rows.sortedHeap_at (vs := its) (out := (arrOf st').map (·.2)) hoL
  have hlen2 : ((srt ks).map V.str).length ≤ sizeLine := by
    rw [List.length_map, g2.length_eq]
    omega
  have fr := I1.hok.fresh (Nat.le_refl h'.objs.size)
  refine wpAny_pure ⟨_, rfl, .ref h'.objs.size, upd H h'.objs.size (.lst ((srt ks).map V.str)), I1.laid (t' := s.toks) (fun b u e => ?_) (Nat.le_refl _)
    (show ObjOk X.prog X.w _ _ _ (.lst ((srt ks).map V.str)) from ⟨hlen2, ((arrOf st').map (·.2)).toList, e', vals_of_strs g1, by rw [Array.toArray_toList]; exact he'⟩), rfl, q _ _ fr (fun b o e => by rw [upd_ne (ne_of_none e fr)]; exact e) (fun b hb => upd_ne hb) upd_same⟩
  have hb : b < h'.objs.size := Heap.lt_size e
  rw [PyProof.Rows.sortedHeap_old (Nat.ne_of_lt hb) (by rw [size_push']; exact Nat.lt_succ_of_lt hb)]
  exact Heap.get?_push_of_some _ e
/-- two dicts of the same keys in the same order, whose values are data -/
def rEqDD (K : PySem.W.Frag) : R2 := fun x y H Q => ∃ (a b : Addr) (ks ls : List (Key × V)) (f g : Key → PyData), x = .ref a ∧ y = .ref b ∧ H a = some (.dK ks) ∧ H b = some (.dK ls) ∧ ks.map (·.1) = ls.map (·.1) ∧
  (∀ p ∈ ks, Dp K H p.2 (f p.1) ∧ SeqAt.shaped (f p.1) = true) ∧ (∀ p ∈ ls, Dp K H p.2 (g p.1) ∧ SeqAt.shaped (g p.1) = true) ∧ Q (.bl ((ks.map (·.1)).all fun k => PyData.eqv (f k) (g k))) H
theorem valV_mem : ∀ {ls : List (Key × V)} {k : Key}, k ∈ ls.map (·.1) → ∃ v, valV ls k = some v ∧ (k, v) ∈ ls
  | p :: ls, k, h => by
    by_cases e : p.1 = k
    · exact ⟨p.2, valV_pos e, by rw [← e]; exact List.mem_cons_self⟩
    · obtain ⟨v, h1, h2⟩ := valV_mem (ls := ls) (k := k) (by
        rcases List.mem_cons.mp h with h | h
        · exact absurd h.symm e
        · exact h)
      exact ⟨v, by rw [valV_neg e]; exact h1, List.mem_cons_of_mem _ h2⟩
theorem op_eqDD (hu : X.A.units + 66 < cLine) : OpR X (compareOp .Eq) (rEqDD X.K) := by
  intro pins s σ H x y v u Q I rx ry h
  obtain ⟨a, b, ks, ls, f, g, rfl, rfl, ea, eb, hkl, hf, hg, q⟩ := h
  obtain rfl : v = Value.ref a := rx
  obtain rfl : u = Value.ref b := ry
  obtain ⟨_, ya, va, ra, da⟩ := (show ObjOk X.prog X.w H s.heap a (.dK ks) from I.hok a _ ea)
  obtain ⟨_, yb, vb, rb, db⟩ := (show ObjOk X.prog X.w H s.heap b (.dK ls) from I.hok b _ eb)
  have hl : va.length = vb.length := by
    rw [← ra.length, ← rb.length]
    have := congrArg List.length hkl
    simpa using this
  have hits : ∀ {ks : List (Key × V)} {va : List (Key × Value)}, KV ks va → (∀ p ∈ ks, p.1 ∈ ls.map (·.1)) → (∀ p ∈ ks, Dp X.K H p.2 (f p.1) ∧ SeqAt.shaped (f p.1) = true) → PySem.W.KeqHits X.A.in1 s vb va ((ks.map (·.1)).all fun k => PyData.eqv (f k) (g k)) := by
    intro ks va r
    unfold KV at r
    induction r with
    | nil => intro _ _; exact .nil
    | @cons p q ps qs h t ih =>
      intro hm hd
      obtain ⟨h1, h2⟩ := h
      obtain ⟨v, hv, hin⟩ := valV_mem (hm p List.mem_cons_self)
      have rr : RelO (some v) (valueAt vb p.1) := by rw [← hv]; exact rb.val p.1
      obtain ⟨y, hy, ry⟩ := rr.some_of
      obtain ⟨key, w⟩ := q
      have h1' : p.1 = key := h1
      subst h1'
      obtain ⟨d1, s1⟩ := hd p List.mem_cons_self
      obtain ⟨d2, s2⟩ := hg _ hin
      obtain ⟨as, r1⟩ := Dp.reads I _ _ w d1 h2
      obtain ⟨bs, r2⟩ := Dp.reads I _ _ y d2 ry
      show PySem.W.KeqHits X.A.in1 s vb ((p.1, w) :: qs) (PyData.eqv (f p.1) (g p.1) && _)
      exact .hit hy (PySem.W.keq_at r1 r2 s1 s2 (by show X.A.units + 1 + 64 < cLine; omega)) (ih (fun p' h' => hm p' (List.mem_cons_of_mem _ h')) fun p' h' => hd p' (List.mem_cons_of_mem _ h'))
  refine PySem.W.keq_eq (knd := mixKind X.prog X.w) (r := (ks.map (·.1)).all fun k => PyData.eqv (f k) (g k)) ya yb da db (by omega) (fun _ => hits ra (fun p hp => by rw [← hkl]; exact List.mem_map_of_mem hp) hf) ⟨.bl _, H, I, ?_, q⟩
  rw [hl]
  show Value.bool _ = Value.bool _
  rw [show (vb.length == vb.length) = true by simp, Bool.true_and]
end
end Z

set_option Elab.async false
set_option linter.all false
set_option maxRecDepth 100000
set_option maxHeartbeats 4000000
/-! enumerate of a tuple -/
namespace Z
open PySem PySem.Spec PyProof.Rows L2
section
variable {prog : Program} {w : World} {A : Around} {E : Value → Shared → Prop} {s : Shared} {q t : Addr} {i : Nat} {its : Array Value} {x : Value} {Q : Value → Shared → Prop}
theorem tupItem (hit : s.heap.IsTupleIter q t i) (ht : s.heap.IsTuple t its) (hx : its[i]? = some x) (hQ : ∀ h', h'.IsTupleIter q t (i + 1) → Heap.SameBut q s.heap h' → Q x { s with heap := h' }) :
    wpAny (model prog w) A (Builtin.SmallTypes.nextOf (.ref q)) Q E s := by
  obtain ⟨ob, ho, hc, hd⟩ := id hit; obtain ⟨ot, hot, _, nn, hdt⟩ := ht
  unfold Builtin.SmallTypes.nextOf; refine wpAny_bind (wpAny_callSpecial?_slot (name := Str.ofString "__next__") hit.typeIs F.slot_tuple_iterator_next (wpAny_call_entry F.slot_tuple_iterator_next hit.typeIs F.entry_tuple_iterator_next ?_ (F.args_tuple_iterator_next_1 _)))
  show wpAny _ _ (field (.ref q) 0 >>= _) _ _ s; refine wpAny_bind (wpAny_field ho hd (x := .ref t) rfl ?_)
  show wpAny _ _ (if (Value.ref t == Value.none) = true then _ else _) _ _ s; rw [if_neg (show ¬ ((Value.ref t == Value.none) = true) from Bool.false_ne_true)]
  show wpAny _ _ (field (.ref q) 1 >>= _) _ _ s; refine wpAny_bind (wpAny_field ho hd (x := .int i 0) rfl ?_)
  show wpAny _ _ (seqItems? (.ref t) >>= _) _ _ s; refine wpAny_bind (wpAny_seqItems hot hdt ?_); simp only [Int.toNat_natCast, hx]
  refine wpAny_bind (wpAny_setField ho hd (by simp) (wpAny_pure ⟨x, rfl, wpAny_pure (hQ _ ⟨_, Heap.get?_update_self _ ho (Obj.isFreed_of_fields (Obj.data_mapFields hd _)), (Obj.cls_mapFields ..).trans hc, by rw [Obj.data_mapFields hd]; simp [rawInt]⟩ (Heap.SameBut.update ..))⟩))
theorem tupDone (calm : A.handled = none) (hit : s.heap.IsTupleIter q t i) (ht : s.heap.IsTuple t its) (out : its[i]? = none)
    (hE : ∀ h' e, Heap.ExtBut q s.heap h' → (∃ o, h'.get? e = some o ∧ o.cls = .type "StopIteration") → E (.ref e) { s with heap := h' }) : wpAny (model prog w) A (Builtin.SmallTypes.nextOf (.ref q)) Q E s := by
  obtain ⟨ob, ho, hc, hd⟩ := id hit; obtain ⟨ot, hot, _, nn, hdt⟩ := ht
  unfold Builtin.SmallTypes.nextOf; refine wpAny_bind (wpAny_callSpecial?_slot (name := Str.ofString "__next__") hit.typeIs F.slot_tuple_iterator_next (wpAny_call_entry F.slot_tuple_iterator_next hit.typeIs F.entry_tuple_iterator_next ?_ (F.args_tuple_iterator_next_1 _)))
  show wpAny _ _ (field (.ref q) 0 >>= _) _ _ s; refine wpAny_bind (wpAny_field ho hd (x := .ref t) rfl ?_)
  show wpAny _ _ (if (Value.ref t == Value.none) = true then _ else _) _ _ s; rw [if_neg (show ¬ ((Value.ref t == Value.none) = true) from Bool.false_ne_true)]
  show wpAny _ _ (field (.ref q) 1 >>= _) _ _ s; refine wpAny_bind (wpAny_field ho hd (x := .int i 0) rfl ?_)
  show wpAny _ _ (seqItems? (.ref t) >>= _) _ _ s; refine wpAny_bind (wpAny_seqItems hot hdt ?_); simp only [Int.toNat_natCast, out]
  refine wpAny_bind (wpAny_rule (wpAny_bind (wpAny_setField ho hd (by simp) ?_))); show wpAny _ _ (newExc (.type "StopIteration") [] >>= _) _ _ _
  refine wpAny_bind ?_; simp only [newExc, newTuple]
  refine wpAny_bind (wpAny_newObj_type ?_ (by size_fits)); refine wpAny_bind (m := firstArgMember _ _) (wpAny_of_eq (a := Value.none) (by first | rfl | (simp only [firstArgMember]; rfl)) ?_)
  refine wpAny_newObj_type ?_ (by size_fits); simp only [raiseNew]
  refine wpAny_bind (wpAny_handled ?_); first | rw [show A.in1.handled = none from calm] | rw [calm]
  refine wpAny_bind (wpAny_pure (wpAny_throw ?_)); exact hE _ _ (((Heap.SameBut.update ..).extBut.push _).push _) ⟨_, Heap.get?_push_size _ rfl, rfl⟩
end
theorem drawsTup {prog : Program} {w : World} {A : Around} (calm : A.handled = none) (q t : Addr) (hne : t ≠ q) (its : Array Value) :
    Draws prog w A q [q, t] its.size (fun i v => its[i]? = some v) (fun i h => h.IsTupleIter q t i ∧ h.IsTuple t its) where
  live := fun _ _ st => let ⟨o, ho, _⟩ := st.1; ⟨o, ho⟩
  frame := fun _ _ _ st hk => ⟨let ⟨o, ho, r⟩ := st.1; ⟨o, hk q (by simp) o ho, r⟩, let ⟨o, ho, r⟩ := st.2; ⟨o, hk t (by simp) o ho, r⟩⟩
  item := fun i s Q E hi st hQ => by
    refine tupItem st.1 st.2 (x := its[i]) (by simp [hi]) fun h' hit' sb => ?_
    exact hQ _ h' s.toks (by simp [hi]) ⟨hit', st.2.extBut sb.extBut hne⟩ sb
  done := fun s Q E st hE => tupDone calm st.1 st.2 (by simp) hE
/-- the end alone -/
theorem drawsEnd {prog : Program} {w : World} {A : Around} (calm : A.handled = none) (q t : Addr) (its : Array Value) (i : Nat) (out : its[i]? = none) :
    Draws prog w A q [q, t] i (fun _ _ => True) (fun j h => j = i ∧ h.IsTupleIter q t j ∧ h.IsTuple t its) where
  live := fun _ _ st => let ⟨o, ho, _⟩ := st.2.1; ⟨o, ho⟩
  frame := fun _ _ _ st hk => ⟨st.1, let ⟨o, ho, r⟩ := st.2.1; ⟨o, hk q (by simp) o ho, r⟩, let ⟨o, ho, r⟩ := st.2.2; ⟨o, hk t (by simp) o ho, r⟩⟩
  item := fun j s Q E hi st hQ => by
    have := st.1
    omega
  done := fun s Q E st hE => tupDone calm st.2.1 st.2.2 out hE
/-- the tuple at a, each item in a new pair -/
def IteT (K : PySem.W.Frag) (a : Addr) : It :=
  ⟨fun i H => ∃ (xs : List V) (x : V), SqT K H a xs ∧ xs[i]? = some x, fun i H v H' => ∃ T x, v = .ref T ∧ H T = none ∧ H' = upd H T (.tup [.int (i : Nat), x]) ∧ ∀ xs, SqT K H a xs → xs[i]? = some x, fun i H => ∃ xs : List V, SqT K H a xs ∧ xs.length ≤ i⟩
theorem turn_enumT {P : Program} {w : World} {K : PySem.W.Frag} {elts : List Expr} {kk : Nat} {tpos : Pos} (a e it : Addr) :
    Turn P w K (.Tuple elts kk tpos) (IteT K a) [e, it] e (fun i h => (∃ old, IsEnum h e it ((i : Nat) : Int) old) ∧ h.IsTupleIter it a i ∧ e ≠ it ∧ a ≠ it ∧ a ≠ e) where
  mem := by simp
  obj := fun i h st b hb => by
    obtain ⟨⟨old, he⟩, ⟨o, ho, hc, hd⟩, _⟩ := st
    have e' : b = e ∨ b = it := by simpa using hb
    rcases e' with z | z
    · rw [z]; exact ⟨_, he, fun v q => nomatch q⟩
    · rw [z]; exact ⟨o, ho, fun v q => by rw [hd] at q; cases q⟩
  keep := fun i h h' st k => let ⟨⟨old, he⟩, ⟨o, ho, r⟩, hne⟩ := st; ⟨⟨old, k e (by simp) _ he⟩, ⟨o, k it (by simp) _ ho, r⟩, hne⟩
  item := by
    intro X hP hw hK hc i pins s σ H E I hf st hg
    subst hP hw hK
    obtain ⟨⟨old, he⟩, hit, hne, hai, hae⟩ := st
    obtain ⟨xs, x, hq, hx⟩ := hg
    obtain ⟨its, rv, p, hz⟩ := I.tuple hq
    obtain ⟨u, hu, ru⟩ := rv.get hx
    have hel : e < s.heap.objs.size := Heap.lt_size he
    have hil : it < s.heap.objs.size := by obtain ⟨_, z, _⟩ := hit; exact Heap.lt_size z
    have hlt : i < its.toArray.size := by
      have := (List.getElem?_eq_some_iff.mp hu).1
      simpa using this
    refine wpAny_pyNext_enum_itemD (drawsTup (by first | exact I.ok.hd hc | (show X.A.in1.handled = none; exact I.ok.hd hc)) it a hai its.toArray) he ⟨hit, p⟩ hlt hne (by simp [hne, Ne.symm hae]) fun x' h' tk hx' ho hst' hT hsz hk => ?_
    obtain rfl : x' = u := by
      rw [show its.toArray[i]? = its[i]? by simp, hu] at hx'
      exact (Option.some.inj hx').symm
    refine ⟨_, rfl, wpAny_letOwnedTupleGo_enum (s := { s with heap := h', toks := tk + 1 }) ho fun h'' he' sb => ?_⟩
    have hT2 : h''.get? s.heap.objs.size = some { cls := .type "tuple", data := .seq #[.int i tk, x'] } := (sb.2 _ (Nat.ne_of_gt hel)).trans hT
    have new : ObjOk X.prog X.w (upd H s.heap.objs.size (.tup [.int (i : Nat), x])) h'' s.heap.objs.size (.tup [.int (i : Nat), x]) :=
      ⟨by show 2 ≤ sizeLine; decide, [.int i tk, x'], .cons ⟨_, rfl⟩ (.cons ru .nil), ⟨_, hT2, rfl, _, rfl⟩⟩
    have I1 : Inv X pins σ (upd H s.heap.objs.size (.tup [.int (i : Nat), x])) { s with heap := h'', toks := tk + 1 } :=
      I.turnedNew (ch := [e, it]) (fun b ob hb z => (sb.2 b (fun y => hb (by simp [y]))).trans (hk b ob (fun y => hb (by simp [y])) (fun y => hb (by simp [y])) z)) hf (Nat.le_refl _) new
    have hit2 : h''.IsTupleIter it a (i + 1) := let ⟨o, ho, r⟩ := hst'.1; ⟨o, (sb.2 it (Ne.symm hne)).trans ho, r⟩
    refine ⟨.ref s.heap.objs.size, _, I1, rfl, ⟨_, x, rfl, I.hok.fresh (Nat.le_refl _), rfl, fun ys hy => by rw [I.tuple_inj hy hq]; exact hx⟩, ⟨⟨x', ?_⟩, hit2, hne, hai, hae⟩, fun b hb => ?_⟩
    · have e1 : ((i + 1 : Nat) : Int) = (i : Int) + 1 := by omega
      rw [e1]; exact he'
    · have hb' : b < s.heap.objs.size := by
        have e' : b = e ∨ b = it := by simpa using hb
        rcases e' with z | z
        · rw [z]; exact hel
        · rw [z]; exact hil
      rw [upd_ne (Nat.ne_of_lt hb')]
      exact (hf b hb).1
  done := by
    intro X hP hw hK hc i pins s σ H E I hf st hg
    subst hP hw hK
    obtain ⟨⟨old, he⟩, hit, hne, hai, hae⟩ := st
    obtain ⟨xs, hq, hx⟩ := hg
    obtain ⟨its, rv, p, hz⟩ := I.tuple hq
    obtain ⟨f0, f1, f2, f3, f4, f5⟩ := hf it (by simp)
    have hl := rv.length
    refine wpAny_pyNext_enum_endD (drawsEnd (by first | exact I.ok.hd hc | (show X.A.in1.handled = none; exact I.ok.hd hc)) it a its.toArray i (by simp; omega)) he ⟨rfl, hit, p⟩ fun h' eb => ⟨rfl, I.turned (t' := s.toks) (fun b o hb q => eb b o hb q) f0 f1 f3 f4 f5⟩
  self := fun A i s Q E st h => let ⟨⟨_, he⟩, _⟩ := st; wpAny_pyIter_enum he h
set_option maxHeartbeats 4000000 in
theorem enumNewT (l : Addr) (its : Array Value) (n : Nat) (dct : Option Addr) (sl : Array (Option Value)) :
    Meets (Builtin.«enumerate.__new__» ⟨[.type "enumerate", .ref l], []⟩) (fun _ R s => s.heap.get? l = some { cls := .type "tuple", dict := dct, data := .seq its n, slots := sl } ∧
      R (.ok (.ret (.ref (s.heap.push { cls := .type "tuple_iterator", data := .fields #[.ref l, .int 0 0] }).objs.size)))
        { s with heap := (s.heap.push { cls := .type "tuple_iterator", data := .fields #[.ref l, .int 0 0] }).push { cls := .type "enumerate", data := .fields #[.none, .bool false, .ref s.heap.objs.size, rawInt 0, .none, .none] } }) :=
  .of_wp fun prog w A R s h => by
    obtain ⟨hl, h⟩ := h
    obtain ⟨hp, g, d, tk, os⟩ := s
    have hT : (⟨hp, g, d, tk, os⟩ : Shared).heap.IsTuple l its := ⟨_, hl, rfl, n, rfl⟩
    have hsub := sub_enumerate
    wp_walk
    refine wpAny_stack_any fun st => wpAny_pure ?_
    split
    · rename_i c _ _ _ _ _
      cases (c == Value.type "enumerate")
      · wp_walk using wpAny_loadPart' hl, wpAny_pyIter_tuple hT
        exact ⟨_, rfl, h⟩
      · wp_walk using wpAny_loadPart' hl, wpAny_pyIter_tuple hT
        exact ⟨_, rfl, h⟩
    · wp_walk using wpAny_loadPart' hl, wpAny_pyIter_tuple hT
      exact ⟨_, rfl, h⟩
theorem callEnumT {prog : Program} {w : World} {A : Around} {E : Value → Shared → Prop} {s : Shared} {l : Addr} {its : Array Value} {Q : Value → Shared → Prop} (hL : s.heap.IsTuple l its)
    (h : ∀ h', IsEnum h' (s.heap.objs.size + 1) s.heap.objs.size 0 .none → h'.IsTupleIter s.heap.objs.size l 0 → (∀ b o, s.heap.get? b = some o → h'.get? b = some o) → Q (.ref (s.heap.objs.size + 1)) { s with heap := h' }) :
    wpAny (model prog w) A (call (.type "enumerate") [.ref l]) Q E s := by
  obtain ⟨⟨c, dct, dt, sl⟩, hl, hc, n, hd⟩ := hL
  replace hc : c = .type "tuple" := hc
  replace hd : dt = .seq its n := hd
  subst hc hd
  refine callType_new F.called_enumerate (by decide) (F.typeCall_enumerate_1 _) (F.newCall_enumerate_1 _) (fun obj => F.args_object_init_2 obj _) F.entry_enumerate_new (enumNewT l its n dct sl) ⟨hl, ?_⟩
  have hz : (s.heap.push { cls := .type "tuple_iterator", data := .fields #[.ref l, .int 0 0] }).objs.size = s.heap.objs.size + 1 := Heap.size_push ..
  show _ ∧ _
  rw [hz]
  have he : IsEnum ((s.heap.push { cls := .type "tuple_iterator", data := .fields #[.ref l, .int 0 0] }).push { cls := .type "enumerate", data := .fields #[.none, .bool false, .ref s.heap.objs.size, rawInt 0, .none, .none] }) (s.heap.objs.size + 1) s.heap.objs.size 0 .none := by
    have := Heap.get?_push_size (s.heap.push { cls := .type "tuple_iterator", data := .fields #[.ref l, .int 0 0] }) (o := { cls := .type "enumerate", data := .fields #[.none, .bool false, .ref s.heap.objs.size, rawInt 0, .none, .none] }) rfl
    rw [hz] at this; exact this
  exact ⟨⟨_, he, rfl⟩, h _ he ⟨_, Heap.get?_push_of_some _ (Heap.get?_push_size _ rfl), rfl, rfl⟩ fun b o x => Heap.get?_push_of_some _ (Heap.get?_push_of_some _ x)⟩
def iEnumT (K : PySem.W.Frag) (ta : TA) : TI := fun σ H R => ta σ H fun vs H1 => ∃ a xs, vs = [.ref a] ∧ SqT K H1 a xs ∧ R (IteT K a) H1
theorem pi_enumT {X : Cx} {e : Expr} {ta : TA} {p pos tpos : Pos} {elts : List Expr} {kk : Nat} (hg : Gl X "enumerate") (hm : X.mg "enumerate" = none) (ha : PA X [e] ta) (hs : starEach [e] X.env = [(false, eval e X.env)] := by rfl) :
    PI X (.Tuple elts kk tpos) (.Call (.Name "enumerate" p) [e] [] pos) (iEnumT X.K ta) := by
  refine ⟨fun pins s σ H R I h => ?_⟩
  refine Call_ (ld_blt I hg hm boot_enumerate (PyProof.Rows.callWith_type1 (thn (ha.run pos pins s σ H _ I h) fun us s1 ⟨vs, H1, I1, r1, q1⟩ => ?_) hs rfl))
  obtain ⟨a, xs, ex, hq, q⟩ := q1
  subst ex
  obtain ⟨u, rfl, r⟩ := r1.one
  cases r
  obtain ⟨its, rv, p', hz⟩ := I1.tuple hq
  refine callEnumT p' fun h' he hit hk => wpAny_pyIter_enum he ?_
  have I2 : Inv X pins σ H1 { s1 with heap := h' } := I1.kept (t' := s1.toks) hk
  have hal : a < s1.heap.objs.size := by obtain ⟨_, z, _⟩ := p'; exact Heap.lt_size z
  refine ⟨s1.heap.objs.size + 1, [s1.heap.objs.size + 1, s1.heap.objs.size], _, _, H1, rfl, I2, turn_enumT a (s1.heap.objs.size + 1) s1.heap.objs.size, ⟨⟨.none, he⟩, hit, Nat.succ_ne_self _, Nat.ne_of_lt hal, Nat.ne_of_lt (Nat.lt_succ_of_lt hal)⟩, fun b hb => ?_, q⟩
  have e' : b = s1.heap.objs.size + 1 ∨ b = s1.heap.objs.size := by simpa using hb
  have hle : s1.heap.objs.size ≤ b := by
    rcases e' with z | z
    · rw [z]; exact Nat.le_add_right _ _
    · rw [z]; exact Nat.le_refl _
  exact I1.fpOk hle (I1.hok.fresh hle)
end Z

set_option Elab.async false
set_option linter.all false
set_option maxRecDepth 100000
set_option maxHeartbeats 4000000
/-! what is walked, be it a list or a tuple; readings of loops, comprehensions and dicts -/
namespace Z
open PySem PySem.Spec PyProof.Rows L2
def SqA (K : PySem.W.Frag) (H : Hp) (a : Addr) (xs : List V) : Prop := SqL K H a xs ∨ SqT K H a xs
/-- what stood at a stands there -/
def AtS (H : Hp) (a : Addr) (H' : Hp) : Prop := ∀ o, H a = some o → H' a = some o
section
variable {K : PySem.W.Frag} {H H' : Hp} {a : Addr} {xs : List V}
theorem AtS.refl : AtS H a H := fun _ e => e
theorem AtS.of (s : Same H H') : AtS H a H' := fun _ e => s _ _ e
theorem atL (s : AtS H a H') (h : SqL K H a xs) : SqL K H' a xs := by
  rcases h with (h | ⟨o, h⟩) | h
  · exact .inl (.inl (s _ h))
  · exact .inl (.inr ⟨o, s _ h⟩)
  · exact .inr h
theorem atT (s : AtS H a H') (h : SqT K H a xs) : SqT K H' a xs := by
  rcases h with (h | ⟨o, h⟩) | h
  · exact .inl (.inl (s _ h))
  · exact .inl (.inr ⟨o, s _ h⟩)
  · exact .inr h
theorem atA (s : AtS H a H') (h : SqA K H a xs) : SqA K H' a xs := h.elim (fun h => .inl (atL s h)) fun h => .inr (atT s h)
theorem sameA (s : Same H H') (h : SqA K H a xs) : SqA K H' a xs := atA (.of s) h
theorem SqA.l (h : H a = some (.lst xs)) : SqA K H a xs := .inl (.of h)
theorem SqA.t (h : H a = some (.tup xs)) : SqA K H a xs := .inr (.of h)
end
/-- e, a list or a tuple, item by item -/
def WkA (K : PySem.W.Frag) (H1 : Hp) (a : Addr) (xs : List V) (Y : Nat → Hp → V → Hp → Prop) (R : It → Prop) : Prop := (SqL K H1 a xs ∧ ∀ J, Walk J xs.length (fun H' => SqL K H' a xs) Y → R J) ∨ (SqT K H1 a xs ∧ ∀ J, Walk J xs.length (fun H' => SqT K H' a xs) Y → R J)
theorem WkA.intro {K : PySem.W.Frag} {H0 H1 : Hp} {a : Addr} {xs : List V} {Y : Nat → Hp → V → Hp → Prop} {R : It → Prop} (s : SqA K H0 a xs) (s1 : Same H0 H1) (h : ∀ J G, Walk J xs.length G Y → (∀ H', Same H0 H' → G H') → R J) : WkA K H1 a xs Y R := by
  rcases s with s | s
  · exact .inl ⟨atL (.of s1) s, fun J w => h J _ w fun H' z => atL (.of z) s⟩
  · exact .inr ⟨atT (.of s1) s, fun J w => h J _ w fun H' z => atT (.of z) s⟩
def iAny (K : PySem.W.Frag) (tl : TE) : TI := fun σ H R => tl σ H fun x H1 => ∃ a xs, x = .ref a ∧ WkA K H1 a xs (YAt xs) fun J => R J H1
theorem pi_any {X : Cx} {K : PySem.W.Frag} {tg l : Expr} {tl : TE} (hK : X.K = K) (hl : PE X l tl) : PI X tg l (iAny K tl) := by
  subst hK
  refine ⟨fun pins s σ H R I h => ?_⟩
  refine thn (hl.run pins s σ H _ I h) fun v s1 ⟨x, H1, I1, r1, q1⟩ => ?_
  obtain ⟨a, xs, e, hq⟩ := q1
  subst e
  cases r1
  have one : ∀ b ∈ [s1.heap.objs.size], FpOk X pins H1 b := fun b hb => by
    have e : b = s1.heap.objs.size := by simpa using hb
    subst e
    exact I1.fpOk (Nat.le_refl _) (I1.hok.fresh (Nat.le_refl _))
  rcases hq with ⟨hq, q⟩ | ⟨hq, q⟩
  · obtain ⟨its, rv, p, hz⟩ := I1.list hq
    exact wpAny_pyIter_list p.isList ⟨s1.heap.objs.size, [s1.heap.objs.size], _, _, H1, rfl, I1.kept (t' := s1.toks) fun b o e => Heap.get?_push_of_some _ e, turn_list a _, ⟨_, Heap.get?_push_size _ rfl, rfl, rfl⟩, one, q _ walk_list⟩
  · obtain ⟨its, rv, p, hz⟩ := I1.tuple hq
    exact wpAny_pyIter_tuple (show s1.heap.IsTuple a its.toArray from p) ⟨s1.heap.objs.size, [s1.heap.objs.size], _, _, H1, rfl, I1.kept (t' := s1.toks) fun b o e => Heap.get?_push_of_some _ e, turn_tuple a _, ⟨_, Heap.get?_push_size _ rfl, rfl, rfl⟩, one, q _ walk_tup⟩
theorem walk_enumT {K : PySem.W.Frag} {a : Addr} {xs : List V} : Walk (IteT K a) xs.length (fun H => SqT K H a xs) (YPair (fun i => some (.int (i : Nat))) (fun i => xs[i]?)) := by
  refine ⟨fun i _ hi q => ⟨xs, xs[i], q, by simp [hi]⟩, fun _ q => ⟨xs, q, Nat.le_refl _⟩, fun i H v H' _ q y => ?_⟩
  obtain ⟨T, x, h1, h2, h3, h4⟩ := y
  exact ⟨T, .int (i : Nat), x, h1, h2, h3, rfl, h4 xs q⟩
/-- enumerate of a list or a tuple -/
def iEnA (K : PySem.W.Frag) (ta : TA) : TI := fun σ H R => ta σ H fun vs H1 => ∃ a xs, vs = [.ref a] ∧ WkA K H1 a xs (YPair (fun i => some (.int (i : Nat))) (fun i => xs[i]?)) fun J => R J H1
theorem pi_enA {X : Cx} {K : PySem.W.Frag} {e : Expr} {ta : TA} {p pos tpos : Pos} {elts : List Expr} {kk : Nat} (hK : X.K = K) (hg : Gl X "enumerate") (hm : X.mg "enumerate" = none) (ha : PA X [e] ta) (hs : starEach [e] X.env = [(false, eval e X.env)] := by rfl) :
    PI X (.Tuple elts kk tpos) (.Call (.Name "enumerate" p) [e] [] pos) (iEnA K ta) := by
  subst hK
  refine ⟨fun pins s σ H R I h => ?_⟩
  refine Call_ (ld_blt I hg hm boot_enumerate (PyProof.Rows.callWith_type1 (thn (ha.run pos pins s σ H _ I h) fun us s1 ⟨vs, H1, I1, r1, q1⟩ => ?_) hs rfl))
  obtain ⟨a, xs, ex, hq⟩ := q1
  subst ex
  obtain ⟨u, rfl, r⟩ := r1.one
  cases r
  have two : ∀ b ∈ [s1.heap.objs.size + 1, s1.heap.objs.size], FpOk X pins H1 b := fun b hb => by
    have e' : b = s1.heap.objs.size + 1 ∨ b = s1.heap.objs.size := by simpa using hb
    have hle : s1.heap.objs.size ≤ b := by
      rcases e' with z | z
      · rw [z]; exact Nat.le_add_right _ _
      · rw [z]; exact Nat.le_refl _
    exact I1.fpOk hle (I1.hok.fresh hle)
  rcases hq with ⟨hq, q⟩ | ⟨hq, q⟩
  · obtain ⟨its, rv, p', hz⟩ := I1.list hq
    refine call_enumerate_list p'.isList fun h' he hit hsz hk => wpAny_pyIter_enum he ?_
    exact ⟨s1.heap.objs.size + 1, [s1.heap.objs.size + 1, s1.heap.objs.size], _, _, H1, rfl, I1.kept (t' := s1.toks) hk, turn_enum a (s1.heap.objs.size + 1) s1.heap.objs.size, ⟨⟨.none, he⟩, hit, Nat.succ_ne_self _⟩, two, q _ walk_enum⟩
  · obtain ⟨its, rv, p', hz⟩ := I1.tuple hq
    refine callEnumT p' fun h' he hit hk => wpAny_pyIter_enum he ?_
    have hal : a < s1.heap.objs.size := by obtain ⟨_, z, _⟩ := p'; exact Heap.lt_size z
    exact ⟨s1.heap.objs.size + 1, [s1.heap.objs.size + 1, s1.heap.objs.size], _, _, H1, rfl, I1.kept (t' := s1.toks) hk, turn_enumT a (s1.heap.objs.size + 1) s1.heap.objs.size, ⟨⟨.none, he⟩, hit, Nat.succ_ne_self _, Nat.ne_of_lt hal, Nat.ne_of_lt (Nat.lt_succ_of_lt hal)⟩, two, q _ walk_enumT⟩
/-! ### readings -/
section
variable {K : PySem.W.Frag} {σ : L2.St} {H H0 : Hp} {D : Ends} {te tl tk tv td ty : TE} {tt tt1 : TT} {tr : TA} {g g1 : TG} {tb : TS} {Q : VK} {a : Addr} {xs : List V} {n : Nat}
def rForA (K : PySem.W.Frag) (g : TG) (tb : TS) (D : Ends) (σ : L2.St) (x : V) (H1 : Hp) : Prop := ∃ a xs, x = .ref a ∧ WkA K H1 a xs (YAt xs) fun J => rFor J g tb D σ H1
theorem i_forA0 (h : tl σ H (fun x H1 => rForA K g tb D σ x H1)) : tFor (iAny K tl) g tb D σ H := h
theorem i_forA (Pv : Nat → L2.St → Hp → Prop) (s : SqA K H0 a xs) (h0 : Pv 0 σ H) (hl : ∀ i σ H1, Pv i σ H1 → Same H0 H1)
    (hs : ∀ i x σ H, xs[i]? = some x → Pv i σ H → g x σ H fun σ2 H2 => tb { D with nx := Pv (i + 1), ct := Pv (i + 1), bk := D.nx } σ2 H2) (hd : ∀ σ H, Pv xs.length σ H → D.nx σ H) : rForA K g tb D σ (.ref a) H :=
  ⟨a, xs, rfl, .intro s (hl _ _ _ h0) fun J G w hG => for_it w Pv h0 (fun i σ H1 _ p => hG _ (hl i σ H1 p)) (fun i x σ H H' _ p y => by obtain ⟨rfl, e⟩ := y; exact hs i x σ _ e p) hd⟩
def rEnA (K : PySem.W.Frag) (g : TG) (tb : TS) (D : Ends) (σ : L2.St) (vs : List V) (H1 : Hp) : Prop := ∃ a xs, vs = [.ref a] ∧ WkA K H1 a xs (YPair (fun i => some (.int (i : Nat))) (fun i => xs[i]?)) fun J => rFor J g tb D σ H1
theorem i_enA0 (h : tr σ H (fun vs H1 => rEnA K g tb D σ vs H1)) : tFor (iEnA K tr) g tb D σ H := h
theorem i_enA (Pv : Nat → L2.St → Hp → Prop) (s : SqA K H0 a xs) (h0 : Pv 0 σ H) (hl : ∀ i σ H1, Pv i σ H1 → Same H0 H1)
    (hs : ∀ i x T σ H H2, xs[i]? = some x → Pv i σ H → H T = none → Same H H2 → H2 T = some (.tup [.int (i : Nat), x]) → (∀ b, b ≠ T → H2 b = H b) → g (.ref T) σ H2 fun σ2 H2 => tb { D with nx := Pv (i + 1), ct := Pv (i + 1), bk := D.nx } σ2 H2)
    (hd : ∀ σ H, Pv xs.length σ H → D.nx σ H) : rEnA K g tb D σ [.ref a] H :=
  ⟨a, xs, rfl, .intro s (hl _ _ _ h0) fun J G w hG => for_it w Pv h0 (fun i σ H1 _ p => hG _ (hl i σ H1 p)) (fun i x σ H H' _ p y => by
    obtain ⟨T, v, z, rfl, hT, rfl, e1, e2⟩ := y
    cases e1
    exact hs i z T σ H _ e2 p hT (fun b o e => by rw [upd_ne (ne_of_none e hT)]; exact e) upd_same fun b hb => upd_ne hb) hd⟩
/-- list comprehensions over it -/
def rLcA (K : PySem.W.Frag) (g : TG) (tt : TT) (te : TE) (vs : List Nat) (σ : L2.St) (Q : VK) (x : V) (H1 : Hp) : Prop := ∃ a xs, x = .ref a ∧ WkA K H1 a xs (YAt xs) fun J => ∀ D, H1 D = none → ∃ W : Nat → Nat → Hp → Prop, (∃ m, W 0 m (upd H1 D (.lst []))) ∧ ∀ i m H, W i m H →
  (J.stop i H ∧ Q (.ref D) H) ∨ (J.go i H ∧ ∃ Nx : Hp → Prop, (∀ H', Nx H' → ∃ m', m' < m ∧ W (i + 1) m' H') ∧ ∀ x H', J.yld i H x H' → g x (wipe σ vs) H' fun σ2 H2 => wipe σ2 vs = wipe σ vs ∧ tt σ2 H2 fun b H3 =>
    if b = true then te σ2 H3 fun y H4 => ∃ acc, H4 D = some (.lst acc) ∧ acc.length < sizeLine ∧ Nx (upd H4 D (.lst (acc ++ [y]))) else Nx H3)
theorem i_lcA0 {vs : List Nat} (h : tl σ H (fun x H1 => rLcA K g tt te vs σ Q x H1)) : tLc (iAny K tl) g tt te vs σ H Q := h
theorem i_lcA {vs : List Nat} (Pv : Nat → List V → Hp → Prop) (s : SqA K H0 a xs) (s0 : Same H0 H) (h0 : ∀ D H', H D = none → Same H H' → H' D = some (.lst []) → (∀ b, b ≠ D → H' b = H b) → Pv 0 [] H')
    (hl : ∀ i ys H1, Pv i ys H1 → Same H0 H1)
    (hs : ∀ i x D ys H1, H D = none → xs[i]? = some x → H1 D = some (.lst ys) → Pv i ys H1 → g x (wipe σ vs) H1 fun σ2 H2 => wipe σ2 vs = wipe σ vs ∧ tt σ2 H2 fun b H3 => if b = true then te σ2 H3 fun y H4 => rLcE D Pv i y H4 else LcS D Pv (i + 1) H3)
    (hd : ∀ D ys H1, H D = none → H1 D = some (.lst ys) → Pv xs.length ys H1 → Q (.ref D) H1) : rLcA K g tt te vs σ Q (.ref a) H := by
  refine ⟨a, xs, rfl, .intro s s0 fun J G w hG D hD => ?_⟩
  refine lc_it w (LcS D Pv) ⟨[], upd_same, h0 D _ hD (fun b o e => by rw [upd_ne (ne_of_none e hD)]; exact e) upd_same (fun b hb => upd_ne hb)⟩ ?_ ?_ ?_
  · rintro i H' _ ⟨ys, _, p⟩
    exact hG _ (hl i ys H' p)
  · rintro i x H1 H2 hi ⟨ys, hD', p⟩ ⟨rfl, e⟩
    exact hs i x D ys _ hD e hD' p
  · rintro H' ⟨ys, hD', p⟩
    exact hd D ys H' hD hD' p
/-- dict comprehensions over it -/
def DcS (D : Addr) (Pv : Nat → List (Key × V) → Hp → Prop) (i : Nat) (H : Hp) : Prop := ∃ kvs, H D = some (.dK kvs) ∧ Pv i kvs H
def rDcE (D : Addr) (Pv : Nat → List (Key × V) → Hp → Prop) (i : Nat) (y z : V) (H5 : Hp) : Prop := ∃ kvs k, y = kV k ∧ H5 D = some (.dK kvs) ∧ kvs.length < sizeLine ∧ DcS D Pv (i + 1) (upd H5 D (.dK (putK kvs k z)))
theorem i_dcE {D : Addr} {Pv : Nat → List (Key × V) → Hp → Prop} {i : Nat} {y : Str} {z : V} {kvs : List (Key × V)} (e : H D = some (.dK kvs)) (l : kvs.length < 100000) (h : ∀ H5, H5 D = some (.dK (putK kvs (.inr y) z)) → (∀ c, c ≠ D → H5 c = H c) → Pv (i + 1) (putK kvs (.inr y) z) H5) : rDcE D Pv i (.str y) z H :=
  ⟨kvs, .inr y, rfl, e, Nat.lt_of_lt_of_le l (by decide), _, upd_same, h _ upd_same (fun c hc => upd_ne hc)⟩
def rDcA (K : PySem.W.Frag) (g : TG) (tt : TT) (tk tv : TE) (vs : List Nat) (σ : L2.St) (Q : VK) (x : V) (H1 : Hp) : Prop := ∃ a xs, x = .ref a ∧ WkA K H1 a xs (YAt xs) fun J => ∀ D, H1 D = none → ∃ W : Nat → Nat → Hp → Prop, (∃ m, W 0 m (upd H1 D (.dK []))) ∧ ∀ i m H, W i m H →
  (J.stop i H ∧ Q (.ref D) H) ∨ (J.go i H ∧ ∃ Nx : Hp → Prop, (∀ H', Nx H' → ∃ m', m' < m ∧ W (i + 1) m' H') ∧ ∀ x H', J.yld i H x H' → g x (wipe σ vs) H' fun σ2 H2 => wipe σ2 vs = wipe σ vs ∧ tt σ2 H2 fun b H3 =>
    if b = true then tk σ2 H3 fun y H4 => tv σ2 H4 fun z H5 => ∃ kvs k, y = kV k ∧ H5 D = some (.dK kvs) ∧ kvs.length < sizeLine ∧ Nx (upd H5 D (.dK (putK kvs k z))) else Nx H3)
theorem i_dcA0 {vs : List Nat} (h : tl σ H (fun x H1 => rDcA K g tt tk tv vs σ Q x H1)) : tDc (iAny K tl) g tt tk tv vs σ H Q := h
theorem i_dcA {vs : List Nat} (Pv : Addr → Nat → List (Key × V) → Hp → Prop) (s : SqA K H0 a xs) (s0 : Same H0 H) (h0 : ∀ D H', H D = none → Same H H' → H' D = some (.dK []) → (∀ b, b ≠ D → H' b = H b) → Pv D 0 [] H')
    (hl : ∀ D i ys H1, Pv D i ys H1 → Same H0 H1)
    (hs : ∀ i x D kvs H1, H D = none → xs[i]? = some x → H1 D = some (.dK kvs) → Pv D i kvs H1 → g x (wipe σ vs) H1 fun σ2 H2 => wipe σ2 vs = wipe σ vs ∧ tt σ2 H2 fun b H3 => if b = true then tk σ2 H3 fun y H4 => tv σ2 H4 fun z H5 => rDcE D (Pv D) i y z H5 else DcS D (Pv D) (i + 1) H3)
    (hd : ∀ D kvs H1, H D = none → H1 D = some (.dK kvs) → Pv D xs.length kvs H1 → Q (.ref D) H1) : rDcA K g tt tk tv vs σ Q (.ref a) H := by
  refine ⟨a, xs, rfl, .intro s s0 fun J G w hG D hD => ⟨fun i m H => m = xs.length - i ∧ i ≤ xs.length ∧ DcS D (Pv D) i H, ⟨xs.length, by simp, Nat.zero_le _, [], upd_same, h0 D _ hD (fun b o e => by rw [upd_ne (ne_of_none e hD)]; exact e) upd_same (fun b hb => upd_ne hb)⟩, ?_⟩⟩
  rintro i m H' ⟨rfl, hi, kvs, hD', p⟩
  have q := hG _ (hl D i kvs H' p)
  by_cases hlt : i < xs.length
  · refine .inr ⟨w.goes i H' hlt q, DcS D (Pv D) (i + 1), fun H'' p' => ⟨xs.length - (i + 1), by omega, rfl, hlt, p'⟩, fun x H'' y => ?_⟩
    obtain ⟨rfl, e⟩ := w.yields i H' x H'' hlt q y
    exact hs i x D kvs _ hD e hD' p
  · have e : i = xs.length := by omega
    subst e
    exact .inl ⟨w.stops H' q, hd D kvs H' hD hD' p⟩
/-! dicts -/
def rDGet (x y : V) (H2 : Hp) (Q : VK) : Prop := ∃ a v, x = .ref a ∧ DGet H2 a y (some v) ∧ Q v H2
theorem i_dget0 (h : td σ H (fun x H1 => ty σ H1 (fun y H2 => rDGet x y H2 Q))) : tDGet td ty σ H Q := h
theorem i_dget {kvs : List (Key × V)} {z : Str} {v : V} (e : H a = some (.dK kvs)) (l : valV kvs (.inr z) = some v) (h : Q v H) : rDGet (.ref a) (.str z) H Q := ⟨a, v, rfl, by rw [← l]; exact DGet.k (k := .inr z) e, h⟩
def rDIn (y x : V) (H2 : Hp) (Q : VK) : Prop := ∃ a o, x = .ref a ∧ DGet H2 a y o ∧ Q (.bl o.isSome) H2
theorem i_din0 (h : ty σ H (fun y H1 => td σ H1 (fun x H2 => rDIn y x H2 Q))) : tDIn ty td σ H Q := h
theorem i_din {kvs : List (Key × V)} {z : Str} {b : Bool} (e : H a = some (.dK kvs)) (l : (valV kvs (.inr z)).isSome = b) (h : Q (.bl b) H) : rDIn (.str z) (.ref a) H Q := ⟨a, _, rfl, DGet.k (k := .inr z) e, by rw [l]; exact h⟩
def rDPut (v x y : V) (H3 : Hp) (P : Hp → Prop) : Prop := ∃ a H4, x = .ref a ∧ DPut H3 a y v H4 ∧ P H4
theorem i_dput0 (h : tv σ H (fun v H1 => td σ H1 (fun x H2 => ty σ H2 (fun y H3 => rDPut v x y H3 (fun H4 => D.nx σ H4))))) : sDPut td ty tv D σ H := h
theorem i_dput {kvs : List (Key × V)} {z : Str} {v : V} {P : Hp → Prop} (e : H a = some (.dK kvs)) (l : kvs.length < 100000) (h : ∀ H4, H4 a = some (.dK (putK kvs (.inr z) v)) → (∀ b, b ≠ a → H4 b = H b) → P H4) : rDPut v (.ref a) (.str z) H P :=
  ⟨a, _, rfl, DPut.k (k := .inr z) e (Nat.lt_of_lt_of_le l (by decide)), h _ upd_same fun b hb => upd_ne hb⟩
/-- the merge of two dicts -/
def rMg2 (p : Addr) (kvs : List (Key × V)) (y : V) (H2 : Hp) (Q : VK) : Prop := ∃ b ls, y = .ref b ∧ p ≠ b ∧ H2 b = some (.dK ls) ∧ H2 p = some (.dK kvs) ∧ ls.length ≤ 1000 ∧ Q (.ref p) (upd H2 p (.dK (mergeK kvs ls)))
def rMg1 (p : Addr) (t2 : TE) (σ : L2.St) (x : V) (H1 : Hp) (Q : VK) : Prop := ∃ a ks, x = .ref a ∧ p ≠ a ∧ H1 a = some (.dK ks) ∧ H1 p = some (.dK []) ∧ ks.length ≤ 1000 ∧ t2 σ (upd H1 p (.dK (mergeK [] ks))) fun y H2 => rMg2 p (mergeK [] ks) y H2 Q
theorem i_mg0 {t1 t2 : TE} (h : ∀ p H1, H p = none → Same H H1 → H1 p = some (.dK []) → (∀ b, b ≠ p → H1 b = H b) → t1 σ H1 fun x H2 => rMg1 p t2 σ x H2 Q) : tMerge2 t1 t2 σ H Q :=
  fun p hp => h p _ hp (fun b o e => by rw [upd_ne (ne_of_none e hp)]; exact e) upd_same fun b hb => upd_ne hb
theorem i_mg1 {p : Addr} {ks : List (Key × V)} {t2 : TE} (ne : p ≠ a) (e : H a = some (.dK ks)) (ep : H p = some (.dK [])) (l : ks.length ≤ 1000) (h : ∀ H2, H2 p = some (.dK (mergeK [] ks)) → (∀ b, b ≠ p → H2 b = H b) → t2 σ H2 fun y H3 => rMg2 p (mergeK [] ks) y H3 Q) : rMg1 p t2 σ (.ref a) H Q :=
  ⟨a, ks, rfl, ne, e, ep, l, h _ upd_same fun b hb => upd_ne hb⟩
theorem i_mg2 {p : Addr} {kvs ls : List (Key × V)} (ne : p ≠ a) (e : H a = some (.dK ls)) (ep : H p = some (.dK kvs)) (l : ls.length ≤ 1000) (h : ∀ H2, H2 p = some (.dK (mergeK kvs ls)) → (∀ b, b ≠ p → H2 b = H b) → Q (.ref p) H2) : rMg2 p kvs (.ref a) H Q :=
  ⟨a, ls, rfl, ne, e, ep, l, h _ upd_same fun b hb => upd_ne hb⟩
/-- a display of one pair -/
theorem i_disp1 {tk tv : TE} (h : ∀ p H1, H p = none → Same H H1 → H1 p = some (.dK []) → (∀ b, b ≠ p → H1 b = H b) → tk σ H1 fun x H2 => tv σ H2 fun y H3 => H3 p = some (.dK []) ∧ ∃ z : Str, x = .str z ∧ ∀ H4, H4 p = some (.dK [(.inr z, y)]) → (∀ b, b ≠ p → H4 b = H3 b) → Q (.ref p) H4)
    (mono : ∀ (P P' : VK), (∀ x H, P x H → P' x H) → ∀ σ H, tk σ H P → tk σ H P') (mono2 : ∀ (P P' : VK), (∀ x H, P x H → P' x H) → ∀ σ H, tv σ H P → tv σ H P') : tDisp [(tk, tv)] σ H Q := by
  intro p hp
  refine mono _ _ (fun x H2 q => mono2 _ _ (fun y H3 q2 => ?_) _ _ q) _ _ (h p _ hp (fun b o e => by rw [upd_ne (ne_of_none e hp)]; exact e) upd_same fun b hb => upd_ne hb)
  obtain ⟨e, z, rfl, k⟩ := q2
  exact ⟨e, [(.inr z, y)], rfl, (by show 1 ≤ 15; decide), k _ upd_same fun b hb => upd_ne hb⟩
/-! comprehensions with two fors -/
def rLcIn (K : PySem.W.Frag) (D : Addr) (N : Hp → Prop) (g1 : TG) (tt1 : TT) (te : TE) (vs1 : List Nat) (σ2 : L2.St) (x1 : V) (H4 : Hp) : Prop := ∃ a xs, x1 = .ref a ∧ WkA K H4 a xs (YAt xs) fun J1 => ∃ W1 : Nat → Nat → Hp → Prop, (∃ m, W1 0 m H4) ∧ ∀ j k H, W1 j k H →
  (J1.stop j H ∧ N H) ∨ (J1.go j H ∧ ∃ Nx1 : Hp → Prop, (∀ H', Nx1 H' → ∃ k', k' < k ∧ W1 (j + 1) k' H') ∧ ∀ x H', J1.yld j H x H' → g1 x (wipe σ2 vs1) H' fun σ3 H5 => wipe σ3 vs1 = wipe σ2 vs1 ∧ tt1 σ3 H5 fun b H6 =>
    if b = true then te σ3 H6 fun y H7 => ∃ acc, H7 D = some (.lst acc) ∧ acc.length < sizeLine ∧ Nx1 (upd H7 D (.lst (acc ++ [y]))) else Nx1 H6)
def rLc2A (K : PySem.W.Frag) (g : TG) (tt : TT) (tl1 : TE) (g1 : TG) (tt1 : TT) (te : TE) (vs vs1 : List Nat) (σ : L2.St) (Q : VK) (x : V) (H1 : Hp) : Prop := ∃ a xs, x = .ref a ∧ WkA K H1 a xs (YAt xs) fun J => ∀ D, H1 D = none → ∃ W : Nat → Nat → Hp → Prop, (∃ m, W 0 m (upd H1 D (.lst []))) ∧ ∀ i m H, W i m H →
  (J.stop i H ∧ Q (.ref D) H) ∨ (J.go i H ∧ ∃ Nx : Hp → Prop, (∀ H', Nx H' → ∃ m', m' < m ∧ W (i + 1) m' H') ∧ ∀ x H', J.yld i H x H' → g x (wipe σ vs) H' fun σ2 H2 => wipe σ2 vs = wipe σ vs ∧ tt σ2 H2 fun b H3 =>
    if b = true then tl1 σ2 H3 fun x1 H4 => rLcIn K D Nx g1 tt1 te vs1 σ2 x1 H4 else Nx H3)
theorem i_lc2A0 {tl1 : TE} {vs vs1 : List Nat} (h : tl σ H (fun x H1 => rLc2A K g tt tl1 g1 tt1 te vs vs1 σ Q x H1)) : tLc2 (iAny K tl) g tt (iAny K tl1) g1 tt1 te vs vs1 σ H Q := h
theorem i_lcIn {D : Addr} {Pv Pw : Nat → List V → Hp → Prop} {i : Nat} {vs1 : List Nat} {ys : List V} (s : SqA K H0 a xs) (e : H D = some (.lst ys)) (h0 : Pw 0 ys H) (hl : ∀ j ys H1, Pw j ys H1 → Same H0 H1)
    (hs : ∀ j x ys H1, xs[j]? = some x → H1 D = some (.lst ys) → Pw j ys H1 → g1 x (wipe σ vs1) H1 fun σ3 H5 => wipe σ3 vs1 = wipe σ vs1 ∧ tt1 σ3 H5 fun b H6 => if b = true then te σ3 H6 fun y H7 => rLcE D Pw j y H7 else LcS D Pw (j + 1) H6)
    (hd : ∀ ys H1, H1 D = some (.lst ys) → Pw xs.length ys H1 → Pv (i + 1) ys H1) : rLcIn K D (LcS D Pv (i + 1)) g1 tt1 te vs1 σ (.ref a) H := by
  refine ⟨a, xs, rfl, .intro s (hl _ _ _ h0) fun J G w hG => ⟨fun j k H => k = xs.length - j ∧ j ≤ xs.length ∧ LcS D Pw j H, ⟨xs.length, by simp, Nat.zero_le _, ys, e, h0⟩, ?_⟩⟩
  rintro j k H' ⟨rfl, hj, zs, hD, p⟩
  have q := hG _ (hl j zs H' p)
  by_cases hlt : j < xs.length
  · refine .inr ⟨w.goes j H' hlt q, LcS D Pw (j + 1), fun H'' p' => ⟨xs.length - (j + 1), by omega, rfl, hlt, p'⟩, fun x H'' y => ?_⟩
    obtain ⟨rfl, e⟩ := w.yields j H' x H'' hlt q y
    exact hs j x zs _ e hD p
  · have e : j = xs.length := by omega
    subst e
    exact .inl ⟨w.stops H' q, zs, hD, hd zs H' hD p⟩
theorem i_lc2A {tl1 : TE} {vs vs1 : List Nat} (Pv : Nat → List V → Hp → Prop) (s : SqA K H0 a xs) (s0 : Same H0 H) (h0 : ∀ D H', H D = none → Same H H' → H' D = some (.lst []) → (∀ b, b ≠ D → H' b = H b) → Pv 0 [] H')
    (hl : ∀ i ys H1, Pv i ys H1 → Same H0 H1)
    (hs : ∀ i x D ys H1, H D = none → xs[i]? = some x → H1 D = some (.lst ys) → Pv i ys H1 → g x (wipe σ vs) H1 fun σ2 H2 => wipe σ2 vs = wipe σ vs ∧ tt σ2 H2 fun b H3 => if b = true then tl1 σ2 H3 fun x1 H4 => rLcIn K D (LcS D Pv (i + 1)) g1 tt1 te vs1 σ2 x1 H4 else LcS D Pv (i + 1) H3)
    (hd : ∀ D ys H1, H D = none → H1 D = some (.lst ys) → Pv xs.length ys H1 → Q (.ref D) H1) : rLc2A K g tt tl1 g1 tt1 te vs vs1 σ Q (.ref a) H := by
  refine ⟨a, xs, rfl, .intro s s0 fun J G w hG D hD => ⟨fun i m H => m = xs.length - i ∧ i ≤ xs.length ∧ LcS D Pv i H, ⟨xs.length, by simp, Nat.zero_le _, [], upd_same, h0 D _ hD (fun b o e => by rw [upd_ne (ne_of_none e hD)]; exact e) upd_same (fun b hb => upd_ne hb)⟩, ?_⟩⟩
  rintro i m H' ⟨rfl, hi, ys, hD', p⟩
  have q := hG _ (hl i ys H' p)
  by_cases hlt : i < xs.length
  · refine .inr ⟨w.goes i H' hlt q, LcS D Pv (i + 1), fun H'' p' => ⟨xs.length - (i + 1), by omega, rfl, hlt, p'⟩, fun x H'' y => ?_⟩
    obtain ⟨rfl, e⟩ := w.yields i H' x H'' hlt q y
    exact hs i x D ys _ hD e hD' p
  · have e : i = xs.length := by omega
    subst e
    exact .inl ⟨w.stops H' q, hd D ys H' hD hD' p⟩
end
end Z

set_option Elab.async false
set_option linter.all false
set_option maxRecDepth 100000
set_option maxHeartbeats 4000000
/-! more readings: lists and tuples of texts -/
namespace Z
open PySem PySem.Spec PyProof.Rows L2
theorem same_new {H : Hp} {p : Addr} {o : HO} (hp : H p = none) : Same H (upd H p o) := fun b q e => by rw [upd_ne (ne_of_none e hp)]; exact e
section
variable {X : Cx} {K : PySem.W.Frag}
theorem k_inS (hK : X.K = K) : OpR X (compareOp .In) (rIn K false) := by subst hK; exact op_in_seq
theorem k_notInS (hK : X.K = K) : OpR X (compareOp .NotIn) (rIn K true) := by subst hK; exact op_notIn_seq
theorem k_inD (hK : X.K = K) (hu : X.A.units + 65 < cLine) : OpR X (compareOp .In) (rInD K) := by subst hK; exact op_inD hu
theorem k_slA (hK : X.K = K) : SlR X (fun x lo hi H Q => rSlL K x lo hi H Q ∨ rSlT K x lo hi H Q) := by subst hK; exact sl_list.or sl_tup
def rListA (K : PySem.W.Frag) : List V → Hp → VK → Prop := fun xs H Q => ∃ p ys, xs = [.ref p] ∧ (SqL K H p ys ∨ SqT K H p ys) ∧ ∀ l, H l = none → Q (.ref l) (upd H l (.lst ys))
theorem k_listA (hK : X.K = K) : CallR X (.type "list") (rListA K) := by subst hK; exact call_list_of
def rTupA (K : PySem.W.Frag) : List V → Hp → VK → Prop := fun xs H Q => ∃ p ys, xs = [.ref p] ∧ ((SqL K H p ys ∧ ∀ l, H l = none → Q (.ref l) (upd H l (.tup ys))) ∨ (SqT K H p ys ∧ Q (.ref p) H))
theorem k_tupA (hK : X.K = K) : CallR X (.type "tuple") (rTupA K) := by subst hK; exact call_tuple_of
theorem k_sort (hK : X.K = K) : CallR X (.builtin "sorted") (rSortST K) := by subst hK; exact cr_sortST
theorem k_iterT (hK : X.K = K) : CallR X (.builtin "iter") (rIterT K) := by subst hK; exact cr_iterT
theorem k_eqDD (hK : X.K = K) (hu : X.A.units + 66 < cLine) : OpR X (compareOp .Eq) (rEqDD K) := by subst hK; exact op_eqDD hu
theorem k_any (hK : X.calm = true) (hK2 : X.K = K) : CallR X (.builtin "any") (rAny K) := by subst hK2; exact cr_any hK
theorem k_all (hK : X.calm = true) (hK2 : X.K = K) : CallR X (.builtin "all") (rAll K) := by subst hK2; exact cr_all hK
theorem k_listOwn {C : Addr} {j : Nat} {spI spL : Sp} {kI kL : Nat} (hK : X.K = K) (hc : X.calm = true) (cI : CalO X.prog X.w X.K X.mg X.base C "__iter__" kI spI) (cL : CalO X.prog X.w X.K X.mg X.base C "__len__" kL spL) (hr : Room j X.A) (hI : kI + 2 ≤ j := by decide) (hL : kL + 3 ≤ j := by decide) :
    CallR X (.type "list") (rListOwn K C spI spL) := by subst hK; exact z_listOwn hc cI cL hr hI hL
/-- the truth of any value -/
def tTruA (K : PySem.W.Frag) (ta : TE) : TT := fun σ H Q => ta σ H fun x H' => ∃ k, TruV K x H' k ∧ Q k H'
theorem k_truth {a : Expr} {ta : TE} (hK : X.K = K) (ha : PE X a ta) (he : ∀ whole, isTrue a X.env whole = (do let v ← whole; standAt a.pos; holding [v] (truthy v))) : PT X a (tTruA K ta) := by subst hK; exact pt_truth ha he
/-- a dict's own pairs, copied -/
def rDictD : List V → Hp → VK → Prop := fun xs H Q => ∃ (a : Addr) (kvs : List (Key × V)), xs = [.ref a] ∧ Rd H a (.dK kvs) ∧ ∀ p, H p = none → Q (.ref p) (upd H p (.dK kvs))
theorem k_dictD : CallR X (.type "dict") rDictD := call_dictD
def rSortD : List V → Hp → VK → Prop := fun xs H Q => ∃ (a : Addr) (kvs : List (Key × V)) (ks : List Str), xs = [.ref a] ∧ Rd H a (.dK kvs) ∧ kvs.map (·.1) = ks.map Sum.inr ∧ ks.length < 64 ∧
    ∀ ys p, ys.Perm ks → sortedS ys = true → H p = none → Q (.ref p) (upd H p (.lst (ys.map V.str)))
theorem k_sortD (hc : X.calm = true) : CallR X (.builtin "sorted") rSortD := call_sortedD hc
end
section
variable {K : PySem.W.Frag} {σ : L2.St} {H : Hp} {D : Ends} {te ta : TE} {Q : VK} {QB : Bool → Hp → Prop} {a p : Addr} {xs ys : List V} {zs : List Str} {x y : Str}
theorem flat_strs : ∀ zs : List Str, (zs.map V.str).all flatV = true
  | [] => rfl
  | z :: zs => by
    rw [List.map_cons, List.all_cons, flat_strs zs]
    rfl
theorem inV_strs : ∀ (zs : List Str) (x : Str), inV (.str x) (zs.map V.str) = decide (x ∈ zs)
  | [], x => by simp [inV]
  | z :: zs, x => by
    have ih := inV_strs zs x
    unfold inV at ih ⊢
    rw [List.map_cons, List.any_cons, ih]
    have e : eqV (.str z) (.str x) = decide (z = x) := by
      show (z == x) = decide (z = x)
      rfl
    rw [e]
    by_cases h : z = x
    · subst h
      simp
    · have : ¬ x = z := fun e => h e.symm
      simp [h, this]
theorem i_inS (s : SqA K H p (zs.map V.str)) (h : Q (.bl (decide (x ∈ zs))) H) : rIn K false (.str x) (.ref p) H Q := ⟨p, _, rfl, s, rfl, flat_strs zs, by rw [inV_strs]; exact h⟩
theorem i_notInS (s : SqA K H p (zs.map V.str)) (h : Q (.bl (!decide (x ∈ zs))) H) : rIn K true (.str x) (.ref p) H Q := ⟨p, _, rfl, s, rfl, flat_strs zs, by rw [inV_strs]; exact h⟩
theorem i_lenA (s : SqA K H p xs) (h : Q (.int xs.length) H) : rLen K [.ref p] H Q := s.elim (fun s => i_lenL s h) fun s => i_lenT s h
theorem i_tru0 (h : ta σ H (fun x H1 => ∃ k, TruV K x H1 k ∧ QB k H1)) : tTruA K ta σ H QB := h
theorem i_truL {b : Bool} (s : SqA K H p xs) (e : (!xs.isEmpty) = b) (h : QB b H) : ∃ k, TruV K (.ref p) H k ∧ QB k H := ⟨b, s.elim (fun s => .inl ⟨xs, s, e.symm⟩) fun s => .inr (.inl ⟨xs, s, e.symm⟩), h⟩
theorem i_listA (s : SqA K H p ys) (h : ∀ l H', H l = none → Same H H' → H' l = some (.lst ys) → (∀ b, b ≠ l → H' b = H b) → Q (.ref l) H') : rListA K [.ref p] H Q := ⟨p, ys, rfl, s, fun l hl => h l _ hl (same_new hl) upd_same fun b hb => upd_ne hb⟩
theorem i_tupL (s : SqL K H p ys) (h : ∀ l H', H l = none → Same H H' → H' l = some (.tup ys) → (∀ b, b ≠ l → H' b = H b) → Q (.ref l) H') : rTupA K [.ref p] H Q := ⟨p, ys, rfl, .inl ⟨s, fun l hl => h l _ hl (same_new hl) upd_same fun b hb => upd_ne hb⟩⟩
theorem i_tupA (s : SqA K H p ys) (h : ∀ l H', Same H H' → SqT K H' l ys → (∀ b, H b ≠ none → H' b = H b) → Q (.ref l) H') : rTupA K [.ref p] H Q := by
  rcases s with s | s
  · exact i_tupL s fun l H' hl sm e ho => h l H' sm (.of e) fun b hb => ho b fun z => hb (z ▸ hl)
  · exact ⟨p, ys, rfl, .inr ⟨s, h p H (Same.refl _) s fun _ _ => rfl⟩⟩
theorem i_sort (s : SqA K H p (zs.map V.str)) (l : zs.length < 64) (h : ∀ q H', H q = none → Same H H' → (∀ b, b ≠ q → H' b = H b) → H' q = some (.lst ((srt zs).map V.str)) → Q (.ref q) H') : rSortST K [.ref p] H Q := ⟨p, zs, rfl, s, l, h⟩
theorem i_sortD {kvs : List (Key × V)} (e : H a = some (.dK kvs)) (k : kvs.map (·.1) = zs.map Sum.inr) (l : zs.length < 64) (h : ∀ q H', H q = none → Same H H' → (∀ b, b ≠ q → H' b = H b) → H' q = some (.lst ((srt zs).map V.str)) → Q (.ref q) H') : rSortD [.ref a] H Q :=
  ⟨a, kvs, zs, rfl, .inl e, k, l, fun ys q hp hs hq => by obtain rfl := srt_eq hp hs; exact h q _ hq (same_new hq) (fun b hb => upd_ne hb) upd_same⟩
theorem i_iterT {t : Addr} (s : SqT K H t ys) (h : ∀ q, H q = none → Q (.ref q) (upd H q (TupIt q t 0))) : rIterT K [.ref t] H Q := ⟨t, ys, rfl, s, h⟩
/-- xs[:j], j below the length -/
theorem cut_to (xs : List V) (j : Nat) : cutV xs none (some (j : Int)) = xs.take j := by
  unfold cutV
  rw [HT.sIx_none, HT.sIx_nat, List.drop_zero, Nat.sub_zero]
  by_cases h : j ≤ xs.length
  · rw [Nat.min_eq_left h]
  · rw [Nat.min_eq_right (by omega), List.take_length, List.take_of_length_le (by omega)]
theorem i_slTo {j : Nat} (s : SqA K H a xs) (hj : j < xs.length) (h : ∀ q H2, H q = none → Same H H2 → SqA K H2 q (xs.take j) → (∀ b, b ≠ q → H2 b = H b) → Q (.ref q) H2) : (rSlL K (.ref a) none (some (j : Int)) H Q ∨ rSlT K (.ref a) none (some (j : Int)) H Q) := by
  rcases s with s | s
  · exact .inl ⟨a, xs, rfl, s, fun q hq => by rw [cut_to]; exact h q _ hq (same_new hq) (.l upd_same) fun b hb => upd_ne hb⟩
  · refine .inr ⟨a, xs, rfl, s, ?_, fun q hq => by rw [cut_to]; exact h q _ hq (same_new hq) (.t upd_same) fun b hb => upd_ne hb⟩
    rintro ⟨_, e⟩
    rw [HT.sIx_nat, Nat.min_eq_left (by omega)] at e
    omega
/-- {x!r} -/
def rFmtR (x : V) (H1 : Hp) (Q : VK) : Prop := (∃ y : Str, x = .str y ∧ (reprText y).length ≤ sizeLine ∧ Q (.str (reprText y)) H1) ∨ ∃ i : Int, x = .int i ∧ i.natAbs.log2 < 1920 ∧ Q (.str (toString i)) H1
theorem i_fmtR (h : te σ H (fun x H1 => rFmtR x H1 Q)) : tFmtR te σ H Q := h
theorem i_fmtRS (l : (reprText y).length ≤ 100000) (h : Q (.str (reprText y)) H) : rFmtR (.str y) H Q := .inl ⟨y, rfl, Nat.le_trans l (by decide), h⟩
/-! lists changed -/
theorem i_bm0 {T : String} {r : V → List V → Hp → VK → Prop} (h : te σ H (fun x H1 => tyV K T x H1 ∧ r x [] H1 Q)) : tBM0 K T r te σ H Q := h
theorem ix_seq {n k : Nat} (h : k < n) : seqIndex? (k : Int) n = some k := by
  have := ixN_seq (ixN_n h)
  exact this.1
theorem i_popAt {k : Nat} {v : V} (e : H p = some (.lst xs)) (l : xs.length ≤ 100000) (hk : xs[k]? = some v) (h : ∀ H2, H2 p = some (.lst (xs.eraseIdx k)) → (∀ b, b ≠ p → H2 b = H b) → Q v H2) : rPopAt (.ref p) [.int (k : Nat)] H Q := by
  have lt := (List.getElem?_eq_some_iff.mp hk).1
  exact ⟨p, xs, k, k, v, rfl, rfl, e, by omega, by omega, ix_seq lt, hk, h _ upd_same fun b hb => upd_ne hb⟩
theorem i_clear (e : H p = some (.lst xs)) (h : ∀ H2, H2 p = some (.lst []) → (∀ b, b ≠ p → H2 b = H b) → Q .non H2) : rClear (.ref p) [] H Q := ⟨p, xs, rfl, rfl, e, h _ upd_same fun b hb => upd_ne hb⟩
/-! data -/
theorem dp_strs : ∀ zs : List Str, DpAll K H (zs.map V.str) (zs.map PyData.str)
  | [] => .nil
  | z :: zs => .cons (.str z) (dp_strs zs)
theorem eqv_strs : ∀ zs ws : List Str, PyData.eqvAll (zs.map PyData.str) (ws.map PyData.str) = decide (zs = ws)
  | [], [] => rfl
  | [], _ :: _ => rfl
  | _ :: _, [] => rfl
  | z :: zs, w :: ws => by
    show (PyData.eqv (.str z) (.str w) && PyData.eqvAll _ _) = _
    rw [eqv_strs zs ws]
    show ((z == w) && _) = _
    by_cases h1 : z = w <;> by_cases h2 : zs = ws <;> simp [h1, h2]
end
end Z

set_option Elab.async false
set_option linter.all false
set_option maxRecDepth 100000
set_option maxHeartbeats 4000000
/-! orders in the heap; promises of the defs about them -/
namespace Z
open PySem PySem.Spec PyProof.Rows L2
theorem u65 {A : Around} {k : Nat} (hr : Room k A) : A.units + 65 < cLine := by have := hr.un; omega
theorem u66 {A : Around} {k : Nat} (hr : Room k A) : A.units + 66 < cLine := by have := hr.un; omega
/-- this promise is never asked -/
def spNo2 : Sp := fun vs _ _ _ => vs.length = 2 ∧ False
/-! ### words -/
def let_ (c : Nat) : Bool := decide (97 ≤ c ∧ c ≤ 122)
def nameL (l : List Nat) : Bool := decide (1 ≤ l.length ∧ l.length ≤ 8) && (l.head?.any let_ && l.all fun c => let_ c || ZS.dig c)
def nameB (z : Str) : Bool := nameL (TL.tl z)
theorem nameB_len {z : Str} (h : nameB z = true) : z.length ≤ 8 := by
  unfold nameB nameL at h
  rw [Bool.and_eq_true] at h
  have := of_decide_eq_true h.1
  have e := TL.len_tl z
  omega
theorem nameB_ok {z : Str} (h : nameB z = true) : PyData.strOk z = true := by
  unfold nameB nameL at h
  rw [Bool.and_eq_true, Bool.and_eq_true] at h
  have h2 := List.all_eq_true.mp h.2.2
  unfold PyData.strOk
  rw [← Array.all_toList, List.all_eq_true]
  intro c hc
  have := h2 c hc
  unfold let_ ZS.dig at this
  simp at this ⊢
  omega
def spIsName : Sp := fun vs H Q _ => vs.length = 1 ∧ ∃ z : Str, vs = [.str z] ∧ z.length ≤ 100000 ∧ ∀ H', Same H H' → Q (.bl (nameB z)) H'
def spCheckN (K : PySem.W.Frag) : Sp := fun vs H Q _ => vs.length = 1 ∧ ∃ (a : Addr) (zs : List Str), vs = [.ref a] ∧ SqA K H a (zs.map V.str) ∧ zs.length ≤ 60 ∧ (∀ z ∈ zs, nameB z = true) ∧ zs.Nodup ∧ ∀ H', Same H H' → Q .non H'
/-- a text whose printed form is not too long -/
def RB (z : Str) : Prop := (reprText z).length ≤ 10000
def GStr : V → Hp → Prop := fun v _ => ∃ z : Str, v = .str z ∧ RB z
/-- an error's own name -/
def EName (CU : Addr) (z : Str) (H : Hp) (E : XK) : Prop := ∀ d H', Same H H' → H' d = some (.xd [("name", .str z)]) → E (.ref CU) (some d) H'
def miss (ks zs : List Str) : Option Str := zs.find? fun z => !decide (z ∈ ks)
def spAmong (K : PySem.W.Frag) (CU : Addr) : Sp := fun vs H Q E => vs.length = 2 ∧ ∃ (a b : Addr) (ks zs : List Str), vs = [.ref a, .ref b] ∧ SqA K H a (ks.map V.str) ∧ SqA K H b (zs.map V.str) ∧
  (∀ z, miss ks zs = some z → RB z ∧ EName CU z H E) ∧ (miss ks zs = none → ∀ H', Same H H' → Q .non H')
theorem miss_none {ks zs : List Str} (h : ∀ z ∈ zs, z ∈ ks) : miss ks zs = none := by
  unfold miss
  rw [List.find?_eq_none]
  intro z hz
  simp [h z hz]
section
variable {K : PySem.W.Frag} {CU a b : Addr} {H : Hp} {Q : VK} {E : XK} {ks zs : List Str} {z : Str}
theorem i_isName (hz : z.length ≤ 100000) (h : ∀ H', Same H H' → Q (.bl (nameB z)) H') : spIsName [.str z] H Q E := ⟨rfl, z, rfl, hz, h⟩
theorem i_checkN (s : SqA K H a (zs.map V.str)) (l : zs.length ≤ 60) (n : ∀ z ∈ zs, nameB z = true) (d : zs.Nodup) (h : ∀ H', Same H H' → Q .non H') : spCheckN K [.ref a] H Q E := ⟨rfl, a, zs, rfl, s, l, n, d, h⟩
theorem i_among (s : SqA K H a (ks.map V.str)) (t : SqA K H b (zs.map V.str)) (m : ∀ z ∈ zs, z ∈ ks) (h : ∀ H', Same H H' → Q .non H') : spAmong K CU [.ref a, .ref b] H Q E := by
  refine ⟨rfl, a, b, ks, zs, rfl, s, t, ?_, fun _ => h⟩
  intro z hz
  rw [miss_none m] at hz
  cases hz
end
/-! ### pairs and orders in the heap -/
/-- tuples of two texts -/
def PrT (K : PySem.W.Frag) (H : Hp) (ps : List V) (E : List (Str × Str)) : Prop := ps.length = E.length ∧ ∀ (i : Nat) (p : V) (e : Str × Str), ps[i]? = some p → E[i]? = some e → ∃ q, p = .ref q ∧ SqT K H q [.str e.1, .str e.2]
def PrA (K : PySem.W.Frag) (H : Hp) (b : Addr) (E : List (Str × Str)) : Prop := ∃ ps, SqA K H b ps ∧ PrT K H ps E
theorem PrT.mono {K : PySem.W.Frag} {H H' : Hp} {ps : List V} {E : List (Str × Str)} (s : Same H H') (h : PrT K H ps E) : PrT K H' ps E :=
  ⟨h.1, fun i p e hp he => let ⟨q, e1, e2⟩ := h.2 i p e hp he; ⟨q, e1, Same_seqT s e2⟩⟩
theorem PrA.mono {K : PySem.W.Frag} {H H' : Hp} {b : Addr} {E : List (Str × Str)} (s : Same H H') (h : PrA K H b E) : PrA K H' b E := let ⟨ps, h1, h2⟩ := h; ⟨ps, sameA s h1, h2.mono s⟩
theorem PrT.nil {K : PySem.W.Frag} {H : Hp} : PrT K H [] [] := ⟨rfl, fun i p e hp => by simp at hp⟩
theorem PrT.snoc {K : PySem.W.Frag} {H : Hp} {ps : List V} {E : List (Str × Str)} {q : Addr} {a b : Str} (h : PrT K H ps E) (e : SqT K H q [.str a, .str b]) : PrT K H (ps ++ [.ref q]) (E ++ [(a, b)]) := by
  refine ⟨by rw [List.length_append, List.length_append, h.1]; rfl, fun i p e' hp he => ?_⟩
  by_cases lt : i < ps.length
  · rw [List.getElem?_append_left lt] at hp
    rw [List.getElem?_append_left (by rw [← h.1]; exact lt)] at he
    exact h.2 i p e' hp he
  · rw [List.getElem?_append_right (by omega)] at hp
    rw [List.getElem?_append_right (by rw [← h.1]; omega), ← h.1] at he
    cases hk : i - ps.length with
    | zero =>
      rw [hk] at hp he
      cases hp
      cases he
      exact ⟨q, rfl, e⟩
    | succ n =>
      rw [hk] at hp
      simp at hp
/-- an order at a: its names ascending, what is above each -/
def rowsOf (N : List Str) (A : Str → Addr) : List (Key × V) := N.map fun n => (.inr n, .ref (A n))
def OTab (H : Hp) (d : Addr) (N : List Str) (R : Str → Str → Bool) : Prop := ∃ A, H d = some (.dK (rowsOf N A)) ∧ ∀ n ∈ N, H (A n) = some (.tup ((OM.ab N R n).map V.str))
def IsO (CO : Addr) (H : Hp) (a : Addr) (N : List Str) (R : Str → Str → Bool) : Prop := ∃ dx t d, H a = some (.ins CO dx [("names", .ref t), ("_above", .ref d)]) ∧ H t = some (.tup (N.map V.str)) ∧ OTab H d N R ∧ N.length ≤ 8 ∧ N.Nodup ∧ ∀ n ∈ N, nameB n = true
theorem OTab.mono {H H' : Hp} {d : Addr} {N : List Str} {R : Str → Str → Bool} (s : Same H H') (h : OTab H d N R) : OTab H' d N R := let ⟨A, h1, h2⟩ := h; ⟨A, s _ _ h1, fun n hn => s _ _ (h2 n hn)⟩
theorem IsO.mono {CO : Addr} {H H' : Hp} {a : Addr} {N : List Str} {R : Str → Str → Bool} (s : Same H H') (h : IsO CO H a N R) : IsO CO H' a N R :=
  let ⟨dx, t, d, h1, h2, h3, h4⟩ := h; ⟨dx, t, d, s _ _ h1, s _ _ h2, h3.mono s, h4⟩
theorem rows_val {A : Str → Addr} {n : Str} : ∀ {N : List Str}, n ∈ N → valV (rowsOf N A) (.inr n) = some (.ref (A n))
  | m :: N, h => by
    by_cases e : m = n
    · subst e
      exact valV_pos rfl
    · have hm : n ∈ N := by
        rcases List.mem_cons.mp h with h | h
        · exact absurd h.symm e
        · exact h
      have := rows_val (A := A) hm
      unfold rowsOf at this ⊢
      rw [List.map_cons, valV_neg (fun z => e (Sum.inr.inj z))]
      exact this
def spClosure (K : PySem.W.Frag) : Sp := fun vs H Q _ => vs.length = 2 ∧ ∃ (a b : Addr) (N : List Str) (E : List (Str × Str)), vs = [.ref a, .ref b] ∧ SqA K H a (N.map V.str) ∧ PrA K H b E ∧ N.length ≤ 8 ∧ N.Nodup ∧ N.Pairwise (fun a b => ltS b a = false) ∧
  (∀ p ∈ E, p.1 ∈ N ∧ p.2 ∈ N) ∧ ∀ d H', H d = none → Same H H' → OTab H' d N (OM.cl E) → Q (.ref d) H'
/-- new tuples of two texts -/
def TPr (H : Hp) (qs : List Addr) (E : List (Str × Str)) : Prop := qs.length = E.length ∧ ∀ (i : Nat) (q : Addr) (e : Str × Str), qs[i]? = some q → E[i]? = some e → H q = some (.tup [.str e.1, .str e.2])
theorem TPr.keep {H H' : Hp} {qs : List Addr} {E : List (Str × Str)} (h : TPr H qs E) (t : ∀ c ys, H c = some (.tup ys) → H' c = some (.tup ys)) : TPr H' qs E := ⟨h.1, fun i q e a b => t _ _ (h.2 i q e a b)⟩
theorem TPr.mono {H H' : Hp} {qs : List Addr} {E : List (Str × Str)} (s : Same H H') (h : TPr H qs E) : TPr H' qs E := h.keep fun c ys e => s _ _ e
theorem TPr.nil {H : Hp} : TPr H [] [] := ⟨rfl, fun i q e h => by simp at h⟩
theorem TPr.snoc {H : Hp} {qs : List Addr} {E : List (Str × Str)} {q : Addr} {a b : Str} (h : TPr H qs E) (e : H q = some (.tup [.str a, .str b])) : TPr H (qs ++ [q]) (E ++ [(a, b)]) := by
  refine ⟨by rw [List.length_append, List.length_append, h.1]; rfl, fun i q' e' hq he => ?_⟩
  by_cases lt : i < qs.length
  · rw [List.getElem?_append_left lt] at hq
    rw [List.getElem?_append_left (by rw [← h.1]; exact lt)] at he
    exact h.2 i q' e' hq he
  · rw [List.getElem?_append_right (by omega)] at hq
    rw [List.getElem?_append_right (by rw [← h.1]; omega), ← h.1] at he
    cases hk : i - qs.length with
    | zero =>
      rw [hk] at hq he
      cases hq
      cases he
      exact e
    | succ n =>
      rw [hk] at hq
      simp at hq
theorem TPr.prt {K : PySem.W.Frag} {H : Hp} {qs : List Addr} {E : List (Str × Str)} (h : TPr H qs E) : PrT K H (qs.map V.ref) E := by
  refine ⟨by rw [List.length_map, h.1], fun i p e hp he => ?_⟩
  rw [List.getElem?_map] at hp
  cases hq : qs[i]? with
  | none => rw [hq] at hp; cases hp
  | some q =>
    rw [hq] at hp
    cases hp
    exact ⟨q, rfl, .of (h.2 i q e hq he)⟩
/-- a new list of pairs -/
def LPr (H : Hp) (p : Addr) (E : List (Str × Str)) : Prop := ∃ qs : List Addr, H p = some (.lst (qs.map V.ref)) ∧ TPr H qs E
theorem LPr.a {K : PySem.W.Frag} {H : Hp} {p : Addr} {E : List (Str × Str)} (h : LPr H p E) : PrA K H p E := let ⟨qs, h1, h2⟩ := h; ⟨_, .l h1, h2.prt⟩
theorem LPr.mono {H H' : Hp} {p : Addr} {E : List (Str × Str)} (s : Same H H') (h : LPr H p E) : LPr H' p E := let ⟨qs, h1, h2⟩ := h; ⟨qs, s _ _ h1, h2.mono s⟩
/-- the tuples stand when an object of another kind is changed -/
theorem tup_keep {H H' : Hp} {p : Addr} {o : HO} (e : H p = some o) (nt : ∀ ys, o ≠ .tup ys) (ho : ∀ b, b ≠ p → H' b = H b) : ∀ c ys, H c = some (.tup ys) → H' c = some (.tup ys) := fun c ys hc => by
  rw [ho c (ne_of hc e (fun z => nt ys z.symm))]
  exact hc
theorem lst_keep {H H' : Hp} {p : Addr} {xs : List V} (e : H p = some (.lst xs)) (ho : ∀ b, b ≠ p → H' b = H b) : ∀ c ys, H c = some (.tup ys) → H' c = some (.tup ys) := tup_keep e (fun _ z => nomatch z) ho
/-- one pair more -/
theorem LPr.snoc {H H2 : Hp} {p q : Addr} {E : List (Str × Str)} {xs : List V} {a b : Str} (h : LPr H p E) (e : H p = some (.lst xs)) (eq : H q = some (.tup [.str a, .str b])) (e2 : H2 p = some (.lst (xs ++ [.ref q]))) (ho : ∀ b, b ≠ p → H2 b = H b) : LPr H2 p (E ++ [(a, b)]) := by
  obtain ⟨qs, h1, h2⟩ := h
  have ex : xs = qs.map V.ref := by
    have := h1.symm.trans e
    cases this
    rfl
  subst ex
  exact ⟨qs ++ [q], by rw [e2, List.map_append]; rfl, (h2.snoc eq).keep (lst_keep e ho)⟩
def spPairs (CO : Addr) : Sp := fun vs H Q _ => vs.length = 1 ∧ ∃ a N R, vs = [.ref a] ∧ IsO CO H a N R ∧ ∀ p H', H p = none → Same H H' → LPr H' p (OM.prs N R) → Q (.ref p) H'
def spBtw (CO : Addr) : Sp := fun vs H Q _ => vs.length = 3 ∧ ∃ a N R x y, vs = [.ref a, .str x, .str y] ∧ IsO CO H a N R ∧ x ∈ N ∧ y ∈ N ∧ ∀ p H', H p = none → Same H H' → H' p = some (.lst ((OM.btw N R x y).map V.str)) → Q (.ref p) H'
def spCovers (CO : Addr) : Sp := fun vs H Q _ => vs.length = 1 ∧ ∃ a N R, vs = [.ref a] ∧ IsO CO H a N R ∧ ∀ p H', H p = none → Same H H' → LPr H' p (OM.cvs N R) → Q (.ref p) H'
def spBelow (CO CU : Addr) : Sp := fun vs H Q E => vs.length = 3 ∧ ∃ a N R x y, vs = [.ref a, .str x, .str y] ∧ IsO CO H a N R ∧ (∀ z, miss N [x, y] = some z → RB z ∧ EName CU z H E) ∧ (miss N [x, y] = none → ∀ H', Same H H' → Q (.bl (R x y)) H')
def spOInit (K : PySem.W.Frag) (CO : Addr) : Sp := fun vs H Q _ => vs.length = 3 ∧ ∃ (a b c : Addr) (zs : List Str) (E : List (Str × Str)), vs = [.ref a, .ref b, .ref c] ∧ (∃ dx, H a = some (.ins CO dx [])) ∧ SqA K H b (zs.map V.str) ∧ PrA K H c E ∧
  1 ≤ zs.length ∧ zs.length ≤ 8 ∧ (∀ z ∈ zs, nameB z = true) ∧ zs.Nodup ∧ (∀ p ∈ E, p.1 ∈ zs ∧ p.2 ∈ zs) ∧ E.length ≤ 10000 ∧ OM.Anti E ∧
  ∀ H', IsO CO H' a (srt zs) (OM.cl E) → (∀ x o, x ≠ a → H x = some o → H' x = some o) → Q .non H'
def spOIn (CO : Addr) : Sp := fun vs H Q _ => vs.length = 2 ∧ ∃ a N R z, vs = [.ref a, .str z] ∧ IsO CO H a N R ∧ ∀ H', Same H H' → Q (.bl (decide (z ∈ N))) H'
def spOLen (CO : Addr) : Sp := fun vs H Q _ => vs.length = 1 ∧ ∃ a N R, vs = [.ref a] ∧ IsO CO H a N R ∧ ∀ H', Same H H' → Q (.int (N.length : Nat)) H'
def spOIter (CO : Addr) : Sp := fun vs H Q _ => vs.length = 1 ∧ ∃ a dx t d ys, vs = [.ref a] ∧ H a = some (.ins CO dx [("names", .ref t), ("_above", .ref d)]) ∧ H t = some (.tup ys) ∧ ∀ q, H q = none → Q (.ref q) (upd H q (TupIt q t 0))
/-- the other side of ==: another order, or no order -/
def spOEq (K : PySem.W.Frag) (CO : Addr) : Sp := fun vs H Q _ => vs.length = 2 ∧ ∃ a N R y, vs = [.ref a, y] ∧ IsO CO H a N R ∧
  ((∃ b M S, y = .ref b ∧ IsO CO H b M S ∧ ∀ H', Same H H' → Q (.bl (decide (N = M) && N.all fun n => decide (OM.ab N R n = OM.ab M S n))) H') ∨
   (∃ t, TyX K H y t ∧ PySem.W.kitOne K t (.ref CO) = some false ∧ ∀ H', Same H H' → Q (.bl false) H'))
def spOStr (CO : Addr) : Sp := fun vs H Q _ => vs.length = 1 ∧ ∃ a N R, vs = [.ref a] ∧ IsO CO H a N R ∧ ∀ z H', Same H H' → Q (.str z) H'
/-! ### the closure's dict of dicts -/
def trues (l : List Str) : List (Key × V) := l.map fun k => (.inr k, .bl true)
def setF {α : Type} (f : Str → α) (n : Str) (v : α) : Str → α := fun x => if x = n then v else f x
theorem setF_same {α : Type} {f : Str → α} {n : Str} {v : α} : setF f n v n = v := by simp [setF]
theorem setF_ne {α : Type} {f : Str → α} {n m : Str} {v : α} (h : m ≠ n) : setF f n v m = f m := by simp [setF, h]
theorem valV_map_none {α : Type} {g : α → V} {f : α → Str} {k : Str} : ∀ {l : List α}, (∀ x ∈ l, f x ≠ k) → valV (l.map fun x => (Sum.inr (f x), g x)) (Sum.inr k : Key) = none
  | [], _ => rfl
  | x :: l, h => by
    rw [List.map_cons, valV_neg (fun z => h x List.mem_cons_self (Sum.inr.inj z))]
    exact valV_map_none fun y hy => h y (List.mem_cons_of_mem _ hy)
theorem trues_put {l : List Str} {k : Str} : putK (trues l) (.inr k) (.bl true) = trues (if k ∈ l then l else l ++ [k]) := by
  by_cases h : k ∈ l
  · rw [if_pos h]
    have hany : ((trues l).any fun kv => decide (kv.1 = Sum.inr k)) = true := List.any_eq_true.mpr ⟨((.inr k : Key), V.bl true), List.mem_map.mpr ⟨k, h, rfl⟩, by simp⟩
    unfold putK
    rw [if_pos hany]
    unfold trues
    rw [List.map_map]
    refine List.map_congr_left fun x _ => ?_
    show (if _ = _ then _ else _) = _
    split
    · rfl
    · rfl
  · have hno : valV (trues l) (.inr k) = none := valV_map_none (k := k) (f := fun x => x) (g := fun _ => V.bl true) fun x hx (e : x = k) => h (e ▸ hx)
    rw [if_neg h, putK_new _ hno]
    unfold trues
    rw [List.map_append]
    rfl
theorem trues_get {l : List Str} {k : Str} : (valV (trues l) (.inr k)).isSome = decide (k ∈ l) := by
  by_cases h : k ∈ l
  · obtain ⟨v, h1, _⟩ := valV_mem (ls := trues l) (k := .inr k) (by
      unfold trues
      rw [List.map_map]
      exact List.mem_map.mpr ⟨k, h, rfl⟩)
    rw [h1]
    simp [h]
  · unfold trues
    rw [valV_map_none (k := k) (f := fun x => x) (g := fun _ => V.bl true) fun x hx (e : x = k) => h (e ▸ hx)]
    simp [h]
def mk (l m : List Str) : List Str := m.foldl (fun acc k => if k ∈ acc then acc else acc ++ [k]) l
theorem trues_merge : ∀ (m l : List Str), mergeK (trues l) (trues m) = trues (mk l m)
  | [], l => rfl
  | k :: m, l => by
    show mergeK (putK (trues l) (.inr k) (.bl true)) (trues m) = trues (mk (if k ∈ l then l else l ++ [k]) m)
    rw [trues_put, trues_merge m]
theorem mem_mk : ∀ (m l : List Str) (x : Str), x ∈ mk l m ↔ x ∈ l ∨ x ∈ m
  | [], l, x => by simp [mk]
  | k :: m, l, x => by
    show x ∈ mk (if k ∈ l then l else l ++ [k]) m ↔ _
    rw [mem_mk m]
    by_cases h : k ∈ l
    · rw [if_pos h]
      constructor
      · rintro (q | q)
        · exact .inl q
        · exact .inr (List.mem_cons_of_mem _ q)
      · rintro (q | q)
        · exact .inl q
        · rcases List.mem_cons.mp q with rfl | q
          · exact .inl h
          · exact .inr q
    · rw [if_neg h]
      simp [or_assoc]
theorem put_nodup {l : List Str} {k : Str} (h : l.Nodup) : (if k ∈ l then l else l ++ [k]).Nodup := by
  split
  · exact h
  · rename_i hn
    refine List.nodup_append.mpr ⟨h, by simp, fun x hx y hy e => hn ?_⟩
    rw [← List.mem_singleton.mp hy, ← e]
    exact hx
theorem mk_nodup : ∀ (m : List Str) {l : List Str}, l.Nodup → (mk l m).Nodup
  | [], l, h => h
  | k :: m, l, h => mk_nodup m (put_nodup h)
theorem nodup_len {N l : List Str} (h : l.Nodup) (s : ∀ x ∈ l, x ∈ N) : l.length ≤ N.length := h.length_le_of_subset s
theorem rows_put {A : Str → Addr} {n : Str} {p : Addr} {N : List Str} (h : n ∈ N) : putK (rowsOf N A) (.inr n) (.ref p) = rowsOf N (setF A n p) := by
  have hany : ((rowsOf N A).any fun kv => decide (kv.1 = Sum.inr n)) = true := List.any_eq_true.mpr ⟨((.inr n : Key), V.ref (A n)), List.mem_map.mpr ⟨n, h, rfl⟩, by simp⟩
  unfold putK
  rw [if_pos hany]
  unfold rowsOf
  rw [List.map_map]
  refine List.map_congr_left fun x _ => ?_
  show (if (Sum.inr x : Key) = Sum.inr n then ((Sum.inr x : Key), V.ref p) else (Sum.inr x, V.ref (A x))) = _
  by_cases e : x = n
  · subst e
    rw [if_pos rfl, setF_same]
  · rw [if_neg (fun z => e (Sum.inr.inj z)), setF_ne e]
theorem rows_snoc {A : Str → Addr} {n : Str} {p : Addr} {N : List Str} (h : ¬ n ∈ N) : putK (rowsOf N A) (.inr n) (.ref p) = rowsOf (N ++ [n]) (setF A n p) := by
  unfold rowsOf
  rw [putK_new _ (valV_map_none (k := n) (f := fun x => x) (g := fun n => V.ref (A n)) fun x hx (e : x = n) => h (e ▸ hx)), List.map_append]
  congr 1
  · refine List.map_congr_left fun x hx => ?_
    rw [setF_ne fun (e : x = n) => h (e ▸ hx)]
  · show _ = [(_, V.ref (setF A n p n))]
    rw [setF_same]
/-- the dict at d0 has a dict of its own for each name: its keys are ks n -/
structure CSt (H : Hp) (d0 : Addr) (N : List Str) (A : Str → Addr) (ks : Str → List Str) (H1 : Hp) : Prop where
  same : Same H H1
  d0n : H d0 = none
  tab : H1 d0 = some (.dK (rowsOf N A))
  new : ∀ n ∈ N, H (A n) = none
  ne : ∀ n ∈ N, A n ≠ d0
  row : ∀ n ∈ N, H1 (A n) = some (.dK (trues (ks n)))
  nd : ∀ n ∈ N, (ks n).Nodup
  inj : ∀ n ∈ N, ∀ m ∈ N, A n = A m → n = m
/-- a key more in the row of n -/
theorem CSt.put {H H1 H2 : Hp} {d0 : Addr} {N : List Str} {A : Str → Addr} {ks : Str → List Str} {n k : Str} (c : CSt H d0 N A ks H1) (hn : n ∈ N) (e : H2 (A n) = some (.dK (putK (trues (ks n)) (.inr k) (.bl true)))) (ho : ∀ b, b ≠ A n → H2 b = H1 b) :
    CSt H d0 N A (setF ks n (if k ∈ ks n then ks n else ks n ++ [k])) H2 where
  same := fun b o eb => by
    rw [ho b (ne_of_none eb (c.new n hn))]
    exact c.same _ _ eb
  d0n := c.d0n
  tab := by
    rw [ho d0 (Ne.symm (c.ne n hn))]
    exact c.tab
  new := c.new
  ne := c.ne
  row := fun m hm => by
    by_cases em : m = n
    · subst em
      rw [e, trues_put, setF_same]
    · rw [setF_ne em, ho _ (fun z => em (c.inj m hm n hn z))]
      exact c.row m hm
  nd := fun m hm => by
    by_cases em : m = n
    · subst em
      rw [setF_same]
      exact put_nodup (c.nd m hm)
    · rw [setF_ne em]
      exact c.nd m hm
  inj := c.inj
/-- another dict for n -/
theorem CSt.set {H H1 H2 H3 : Hp} {d0 p : Addr} {N l : List Str} {A : Str → Addr} {ks : Str → List Str} {n : Str} (c : CSt H d0 N A ks H1) (hn : n ∈ N) (hp : H1 p = none) (hl : l.Nodup) (s2 : ∀ b, b ≠ p → H2 b = H1 b) (e2 : H2 p = some (.dK (trues l)))
    (e : H3 d0 = some (.dK (putK (rowsOf N A) (.inr n) (.ref p)))) (ho : ∀ b, b ≠ d0 → H3 b = H2 b) : CSt H d0 N (setF A n p) (setF ks n l) H3 := by
  have hpH : H p = none := by
    cases q : H p with
    | none => rfl
    | some o => rw [c.same _ _ q] at hp; cases hp
  have pd : p ≠ d0 := fun z => by rw [z, c.tab] at hp; cases hp
  have pA : ∀ m ∈ N, A m ≠ p := fun m hm z => by rw [← z, c.row m hm] at hp; cases hp
  refine ⟨fun b o eb => ?_, c.d0n, by rw [e, rows_put hn], fun m hm => ?_, fun m hm => ?_, fun m hm => ?_, fun m hm => ?_, fun m hm m' hm' z => ?_⟩
  · rw [ho b (ne_of_none eb c.d0n), s2 b (ne_of_none eb hpH)]
    exact c.same _ _ eb
  · by_cases em : m = n
    · subst em
      rw [setF_same]
      exact hpH
    · rw [setF_ne em]
      exact c.new m hm
  · by_cases em : m = n
    · subst em
      rw [setF_same]
      exact pd
    · rw [setF_ne em]
      exact c.ne m hm
  · by_cases em : m = n
    · subst em
      rw [setF_same, setF_same, ho p pd]
      exact e2
    · rw [setF_ne em, setF_ne em, ho _ (c.ne m hm), s2 _ (pA m hm)]
      exact c.row m hm
  · by_cases em : m = n
    · subst em
      rw [setF_same]
      exact hl
    · rw [setF_ne em]
      exact c.nd m hm
  · by_cases em : m = n <;> by_cases em' : m' = n
    · rw [em, em']
    · subst em
      rw [setF_same, setF_ne em'] at z
      exact absurd z.symm (pA m' hm')
    · subst em'
      rw [setF_same, setF_ne em] at z
      exact absurd z (pA m hm)
    · rw [setF_ne em, setF_ne em'] at z
      exact c.inj m hm m' hm' z
/-- a name more -/
theorem CSt.snoc {H H1 H2 H3 : Hp} {d0 p : Addr} {L : List Str} {A : Str → Addr} {ks : Str → List Str} {n : Str} (c : CSt H d0 L A ks H1) (hn : ¬ n ∈ L) (hp : H1 p = none) (hl : (ks n).Nodup) (s2 : ∀ b, b ≠ p → H2 b = H1 b) (e2 : H2 p = some (.dK (trues (ks n))))
    (e : H3 d0 = some (.dK (putK (rowsOf L A) (.inr n) (.ref p)))) (ho : ∀ b, b ≠ d0 → H3 b = H2 b) : CSt H d0 (L ++ [n]) (setF A n p) ks H3 := by
  have hpH : H p = none := by
    cases q : H p with
    | none => rfl
    | some o => rw [c.same _ _ q] at hp; cases hp
  have pd : p ≠ d0 := fun z => by rw [z, c.tab] at hp; cases hp
  have pA : ∀ m ∈ L, A m ≠ p := fun m hm z => by rw [← z, c.row m hm] at hp; cases hp
  have two : ∀ m, m ∈ L ++ [n] → (m ∈ L ∧ m ≠ n) ∨ m = n := fun m hm => by
    rcases List.mem_append.mp hm with h | h
    · exact .inl ⟨h, fun e => hn (e ▸ h)⟩
    · exact .inr (List.mem_singleton.mp h)
  refine ⟨fun b o eb => ?_, c.d0n, by rw [e, rows_snoc hn], fun m hm => ?_, fun m hm => ?_, fun m hm => ?_, fun m hm => ?_, fun m hm m' hm' z => ?_⟩
  · rw [ho b (ne_of_none eb c.d0n), s2 b (ne_of_none eb hpH)]
    exact c.same _ _ eb
  · rcases two m hm with ⟨h, em⟩ | rfl
    · rw [setF_ne em]
      exact c.new m h
    · rw [setF_same]
      exact hpH
  · rcases two m hm with ⟨h, em⟩ | rfl
    · rw [setF_ne em]
      exact c.ne m h
    · rw [setF_same]
      exact pd
  · rcases two m hm with ⟨h, em⟩ | rfl
    · rw [setF_ne em, ho _ (c.ne m h), s2 _ (pA m h)]
      exact c.row m h
    · rw [setF_same, ho p pd]
      exact e2
  · rcases two m hm with ⟨h, em⟩ | rfl
    · exact c.nd m h
    · exact hl
  · rcases two m hm with ⟨h, em⟩ | rfl <;> rcases two m' hm' with ⟨h', em'⟩ | rfl
    · rw [setF_ne em, setF_ne em'] at z
      exact c.inj m h m' h' z
    · rw [setF_same, setF_ne em] at z
      exact absurd z (pA m h)
    · rw [setF_same, setF_ne em'] at z
      exact absurd z.symm (pA m' h')
    · rfl
theorem CSt.keep {H H1 H2 : Hp} {d0 : Addr} {N : List Str} {A : Str → Addr} {ks : Str → List Str} (c : CSt H d0 N A ks H1) (h : ∀ b, H1 b ≠ none → H2 b = H1 b) : CSt H d0 N A ks H2 where
  same := fun b o e => by
    rw [h b (by rw [c.same _ _ e]; simp)]
    exact c.same _ _ e
  d0n := c.d0n
  tab := by
    rw [h d0 (by rw [c.tab]; simp)]
    exact c.tab
  new := c.new
  ne := c.ne
  row := fun n hn => by
    rw [h _ (by rw [c.row n hn]; simp)]
    exact c.row n hn
  nd := c.nd
  inj := c.inj
theorem mem_put {l : List Str} {k x : Str} : x ∈ (if k ∈ l then l else l ++ [k]) ↔ x ∈ l ∨ x = k := by
  split
  · rename_i h
    exact ⟨.inl, fun q => q.elim (fun q => q) fun e => e ▸ h⟩
  · simp
theorem wm_self {E : List (Str × Str)} {ms : List Str} {m q : Str} : OM.wm E (m :: ms) m q = OM.wm E ms m q := by
  have := OM.wm_refl E ms m
  show (OM.wm E ms m q || (OM.wm E ms m m && OM.wm E ms m q)) = _
  rw [this]
  simp
theorem trues_keys {l : List Str} : (trues l).map (·.1) = l.map Sum.inr := by
  unfold trues
  rw [List.map_map]
  rfl
theorem trues_len {l : List Str} : (trues l).length = l.length := by unfold trues; rw [List.length_map]
theorem rows_len {N : List Str} {A : Str → Addr} : (rowsOf N A).length = N.length := by unfold rowsOf; rw [List.length_map]
end Z

set_option Elab.async false
set_option linter.all false
set_option maxRecDepth 100000
set_option maxHeartbeats 4000000
/-! try with several clauses, each with its name -/
namespace Z
open PySem PySem.Spec PyProof.Rows L2
abbrev CTS := Value × (Addr → Value → Option Addr → TS)
/-- what the clauses wish, one after the other -/
def wAll (K : PySem.W.Frag) (i : Nat) (Wout : WX) (D : Ends) : List CTS → WX
  | [] => Wout
  | (c, ts) :: r => wAs K c i ts (wAll K i Wout D r) D
/-- the clauses' suites are understood -/
inductive Clauses (X : Cx) (n : Str) : List ExceptHandler → List CTS → Prop
  | nil : Clauses X n [] []
  | cons {x : Str} {c : Value} {ts : Addr → Value → Option Addr → TS} {b : Stmt} {bs : List Stmt} {np hp : Pos} {hds : List ExceptHandler} {l : List CTS} (hc : Names X x c)
      (hsu : ∀ (a : Addr) (oe : Obj) (cls : Value) (d : Option Addr) (pn : List (Addr × Obj)), Zc cls d oe → (∃ vs, oe.data = .fields vs) → PSs (X.suite a ((a, oe) :: pn)) (b :: bs) (ts a cls d)) (r : Clauses X n hds l) :
      Clauses X n (.ExceptHandler (some (.Name x np)) (some n) (b :: bs) hp :: hds) ((c, ts) :: l)
section
variable {X : Cx} {n : Str} {i : Nat} {body : List Stmt} {h₀ : ExceptHandler} {hds : List ExceptHandler} {l : List CTS} {pos : Pos} {tb : WX → TS} {Wout : WX}
theorem z_tryAll (hs : X.stack = X.env :: X.outer) (hf : X.env.frame = some X.env.locals) (hN : X.N.Nodup) (hi : X.N[i]? = some n) (hln : X.env.kindOf n = some .local) (tk : Takes X Wout)
    (hb : ∀ (W : WX) (pn : List (Addr × Obj)) (xe : Value → Shared → Prop), Takes (X.tr pn xe) W → PassesOwn (model X.prog X.w) X.A X.env xe → PSs (X.tr pn xe) body (tb W))
    (hh : Clauses X n (h₀ :: hds) l) : PS X (.Try body (h₀ :: hds) [] [] pos) (fun D σ H => tb (wAll X.K i Wout D l) D σ H) := by
  refine ⟨fun pins s σ H D I h => ?_⟩
  have ok := I.ok
  have hfr : X.A.frames = some (X.env :: X.outer) := by rw [ok.frames, hs]
  have hloc : Loc X.env.scope n := .inl hln
  refine wpAny_Try_except ?_
  refine wpAny_mono ((hb (wAll X.K i Wout D l) (X.pn ++ pins) (fun e s₁ => wpAny (model X.prog X.w) X.A (noteFrame e X.env) (fun _ s₂ => wpAny (model X.prog X.w) X.A (setFlight e none) (fun _ s₃ =>
    wpAny (model X.prog X.w) X.A (handleBy e X.env (h₀ :: hds)) (SP X pins D) X.xe s₃) X.xe s₂) X.xe s₁) (fun u s' xx => ?_) PassesOwn.looking).run [] s σ H D (I.toTry _) h) (fun f s1 hsp => ?_) (fun e s1 he => he)
  · obtain ⟨a, B, sI, pins', σ', H', cls, d, rfl, J', nb, up, sky, na, os, ag, w⟩ := xx
    have J : Inv X pins σ' H' sI := J'.ofTry ok
    have sk : Sky B (X.env :: X.outer) a (Zc cls d) X.env.locals s'.heap := hs ▸ sky
    show wpAny (model X.prog X.w) X.A (noteFrame (.ref a) X.env) _ _ _
    refine Sky.land Zc.steady hfr hf sk fun h3 fl up3 => ?_
    have u3 := up.trans up3
    have J3 : Inv X pins σ' H' { s' with heap := h3 } := J.landed nb fl.1 u3 os ag
    obtain ⟨oe, vs, he, hz, hd⟩ := fl.there
    -- the exception is no frame
    have far : a ∉ frs (X.env :: X.outer) := fun hm => by
      obtain ⟨_, o', e', hnf⟩ := fl.2.2.1.mem hm
      have := he.symm.trans e'
      cases this
      exact hnf _ hd
    have nL : a ≠ X.env.locals := fun z => far (List.mem_filterMap.mpr ⟨X.env, .head _, by rw [hf, z]⟩)
    have nF : a ∉ X.fs := fun hm => by
      obtain ⟨e, he', q⟩ := List.mem_filterMap.mp hm
      exact far (List.mem_filterMap.mpr ⟨e, .tail _ he', q⟩)
    have S3 := J3.suite he hd na nL nF
    have LT : PySem.W.Looks (model X.prog X.w) h3 (typeOf (.ref a)) cls := fun A Q E s k q => wpAny_typeOf_ref (k _ _ he) (by rw [hz.1]; exact q)
    have each : ∀ {cs : List ExceptHandler} {m : List CTS}, Clauses X n cs m → wAll X.K i Wout D m cls d σ' H' → wpAny (model X.prog X.w) X.A (handleBy (.ref a) X.env cs) (SP X pins D) X.xe { s' with heap := h3 } := by
      intro cs m k
      induction k with
      | nil =>
        intro w
        refine wpAny_handleBy_nil ?_
        obtain ⟨_, _, _, o2, v2, T, oT, t2, g1, _, g2, g3, _⟩ := id fl
        unfold PySem.passOn
        refine wpAny_bind (wpAny_field g1 g2 g3 ?_)
        rw [if_neg (show ¬ ((Value.ref T == Value.none) = true) by simp)]
        have out : wpAny (model X.prog X.w) X.A (setFlight (.ref a) X.env.frame) (fun _ s4 => wpAny (model X.prog X.w) X.A (throw (.ref a) : Sem Flow) (SP X pins D) X.xe s4) X.xe { s' with heap := h3 } := by
          rw [hf]
          exact HandSPX.setFlight_upZ fl fun h4 hh4 up4 => wpAny_throw (tk _ _ ⟨a, B, sI, pins, σ', H', cls, d, rfl, J, nb, u3.trans up4, .inr (.inr (hs ▸ hh4)), na, os, ag, w⟩)
        first
          | exact wpAny_bind (wpAny_pure (wpAny_bind out))
          | exact wpAny_bind out
      | @cons x c ts b bs np hp cs2 m2 hc hsu r ih =>
        rintro ⟨y, hy, yes, no⟩
        refine wpAny_handleBy_cons (codeAny_handlers_test ?_) (by intro q; cases q)
        have LM := (PySem.W.exm_one (M := model X.prog X.w) (J3.kIn) LT hy)
        have named : ∀ {Q E : Value → Shared → Prop}, Q c { s' with heap := h3 } → wpAny (model X.prog X.w) (X.A.mark (some (.ref a))) (eval (.Name x np) X.env) Q E { s' with heap := h3 } := by
          intro Q E q
          rcases hc with ⟨hg, hdb, hm | ⟨hm, hv, hnn⟩⟩
          · exact ld_glob (X := X.suite a ((a, oe) :: (X.pn ++ pins))) S3 hg hm q hdb
          · exact ld_blt (X := X.suite a ((a, oe) :: (X.pn ++ pins))) S3 hg hm hv q hnn hdb
        refine named (LM.here ?_)
        cases y
        · exact ih (no rfl)
        · refine codeAny_handlers_suite_as ?_
          refine HandSPX.lands_againZ fl fun h4 fl4 up4 => ?_
          obtain ⟨oe4, vs4, he4, hz4, hd4⟩ := fl4.there
          have S4 := (show Inv X pins σ' H' { s' with heap := h4 } from J.landed nb fl4.1 (u3.trans up4) os ag).suite he4 hd4 na nL nF
          refine store_ok (X := X.suite a ((a, oe4) :: (X.pn ++ pins))) (v := .ref a) S4 hN hi hloc rfl (fun s5 S5 => ?_) (.inr hln)
          have after : ∀ {s6 : Shared} {σ6 : L2.St} {H6 : Hp} {Q : Shared → Prop}, Inv (X.suite a ((a, oe4) :: (X.pn ++ pins))) [] σ6 H6 s6 → (∀ s7, Inv X pins (σ6.set i none) H6 s7 → Q s7) →
              wpAny (model X.prog X.w) X.A (do bindName X.env n .none; unbindBehindTheSuite X.env n hp) (fun _ s7 => Q s7) X.xe s6 := fun {s6 σ6 H6 Q} S6 hq => gone_ok (S6.unsuite ok) hN hi hln hq
          refine wpAny_mono ((hsu a oe4 cls d (X.pn ++ pins) hz4 ⟨_, hd4⟩).run [] s5 _ H' _ S5 (yes rfl a na)) (fun f s6 z => ?_) (fun _ _ z => z.elim)
          cases f
          case ret u =>
            obtain ⟨v6, σ6, H6, S6, r6, q6⟩ := z
            exact after S6 fun s7 J7 => ⟨_, _, _, J7, r6, q6⟩
          all_goals
            obtain ⟨σ6, H6, S6, q6⟩ := z
            exact after S6 fun s7 J7 => ⟨_, _, J7, q6⟩
    exact each hh w
  · cases f
    case next =>
      obtain ⟨σ', H', J', q⟩ := hsp
      exact wpAny_execs_nil ⟨σ', H', J'.ofTry ok, q⟩
    case ret u =>
      obtain ⟨v, σ', H', J', r, q⟩ := hsp
      exact ⟨v, σ', H', J'.ofTry ok, r, q⟩
    all_goals
      obtain ⟨σ', H', J', q⟩ := hsp
      exact ⟨σ', H', J'.ofTry ok, q⟩
end
/-- this clause is not the one -/
theorem i_wasNo {K : PySem.W.Frag} {σ : L2.St} {H : Hp} {D : Ends} {c cls : Value} {i : Nat} {ts : Addr → Value → Option Addr → TS} {Wout : WX} {d : Option Addr} (hx : PySem.W.exmOne K cls c = some false) (h : Wout cls d σ H) :
    wAs K c i ts Wout D cls d σ H := ⟨false, hx, (fun q => nomatch q), fun _ => h⟩
end Z

set_option Elab.async false
set_option linter.all false
set_option maxRecDepth 100000
set_option maxHeartbeats 4000000
/-! a list of texts in an f-string: some bounded text -/
namespace Z
open PySem PySem.Spec PyProof.Rows PySem.Sem
section
variable {prog : Program} {w : World} {A : Around} {E : Value → Shared → Prop} {s : Shared}
theorem dots_len : ("[...]" : Str).length ≤ 5 := by decide +kernel
theorem z_reprHead {M : Model} {Q : Fin → Shared → Prop} {a : Addr} {o : Obj} {x : Value} {l : List Value} {n : Nat} {b : Nat} (hget : s.heap.get? a = some o) (hd : o.data = .seq (x :: l).toArray n)
    (h1 : wpAny M A (do again (.builtin "list.__repr__.loop" ⟨[.ref a, rawInt 0, ← newList [], rawInt b], []⟩)) Q E s) (h2 : wpAny M A (do rule "list.__repr__.in-itself"; retStr "[...]") Q E s) : wpAny M A (Builtin.listReprAt b ⟨[.ref a], []⟩) Q E s := by
  intro Γ p hΓ
  have k1 := h1 Γ p hΓ
  have k2 := h2 Γ p hΓ
  unfold Builtin.listReprAt
  simp [slotArgs, Builtin.List.listItems, seqItems?, wp_load_of (h := hget), hd, PySem.stack]
  show wp M Γ (if (Γ.below.any _) = true then _ else _) _ _ p s
  split
  · exact k2
  · exact k1
theorem z_item {prog : Program} {w : World} : ∀ {l : List Value} {ts : List Str}, ReprAll prog w l ts → ∀ (i : Nat) (y : Value), l[i]? = some y → ∃ t, ts[i]? = some t ∧ ReprIs prog w y t
  | _, _, .nil, i, y, h => by simp at h
  | _, _, .cons h1 h2, 0, y, h => by
    have e := Option.some.inj h
    subst e
    exact ⟨_, rfl, h1⟩
  | _, _, .cons h1 h2, i + 1, y, h => z_item h2 i y h
theorem z_listRepr {a : Addr} {o : Obj} {x : Value} {l : List Value} {n : Nat} {ts : List Str} {Q : Value → Shared → Prop} (hT : s.TypeIs (.ref a) "list") (ha : s.heap.get? a = some o) (hd : o.data = .seq (x :: l).toArray n) (hA : ReprAll prog w (x :: l) ts) (hz : (listText ts).length ≤ sizeLine)
    (h : ∀ (m : Str) (u tk : Tok) (h' : Heap), (∀ b o, s.heap.get? b = some o → h'.get? b = some o) → m.length ≤ (listText ts).length + 5 → Q (.str m u) { s with heap := h', toks := tk }) : wpAny (model prog w) A (call (.builtin "list.__repr__") [.ref a]) Q E s := by
  refine wpAny_call (codeAny_call_builtin F.slot_list_repr.plain F.entry_list_repr (F.slot_list_repr.check _ _ _ _ _ _ _ _ hT (F.args_list_repr_1 _) ?_))
  refine z_reprHead (b := 0) ha hd ?_ ?_
  · refine wpAny_bind (m := newList []) (wpAny_newObj_type ?_)
    refine wpAny_pure ⟨F.quiet_list_repr_loop _, ?_⟩
    refine codeAny_list_repr_start (P := s.heap.objs.size) (ts := ts) (Nat.ne_of_lt (Heap.lt_size ha)) (by rw [hA.length_eq]; rfl) (fun i y hy => ?_) (Heap.get?_push_of_some _ ha) hd (Heap.get?_push_size _ rfl) (fun h' u tk hk => ?_) (by omega)
    · exact z_item hA i y (by simpa using hy)
    · exact h _ u tk h' (fun b o e => hk b o (Nat.ne_of_lt (Heap.lt_size e)) (Heap.get?_push_of_some _ e)) (Nat.le_add_right _ _)
  · refine wpAny_bind (wpAny_rule ?_)
    refine wpAny_bind (wpAny_mkStr (wpAny_pure ?_) (by decide +kernel))
    exact h "[...]" _ _ s.heap (fun _ _ e => e) (Nat.le_trans dots_len (Nat.le_add_left _ _))
theorem z_listFmt {a : Addr} {o : Obj} {x : Value} {l : List Value} {n : Nat} {ts : List Str} {Q : Value → Shared → Prop} (hu : A.units + 2 < cLine) (hT : s.TypeIs (.ref a) "list") (ha : s.heap.get? a = some o) (hd : o.data = .seq (x :: l).toArray n) (hA : ReprAll prog w (x :: l) ts) (hz : (listText ts).length ≤ sizeLine)
    (h : ∀ (m : Str) (u tk : Tok) (h' : Heap), (∀ b o, s.heap.get? b = some o → h'.get? b = some o) → m.length ≤ (listText ts).length + 5 → Q (.str m u) { s with heap := h', toks := tk }) : wpAny (model prog w) A (formatField (.ref a) Str.empty) Q E s :=
  wpAny_formatField_slot (fun _ _ => nofun) hu hT F.slot_list_format F.slot_list_str F.slot_list_repr.toG
    (z_listRepr (s := { s with toks := s.toks + 1 }) hT ha hd hA hz fun m u tk h' k hm => ⟨m, u, rfl, h m u tk h' k hm⟩)
end
theorem from_len : ∀ (ts : List Str) (k : Nat) (acc : Str), (textFrom k acc ts).length ≤ acc.length + piled ts
  | [], _, acc => by rw [piled_nil]; exact Nat.le_add_right _ _
  | t :: ts, k, acc => by
    have ih := from_len ts (k + 1) (acc ++ (if k > 0 then ", " else "" : String) ++ t)
    have e : (acc ++ (if k > 0 then ", " else "" : String) ++ t).length ≤ acc.length + 2 + t.length := by
      rw [strLen_append, strLen_append]
      have : ((if k > 0 then ", " else "" : String) : Str).length ≤ 2 := by split <;> decide +kernel
      omega
    rw [piled_cons]
    show (textFrom (k + 1) _ ts).length ≤ _
    omega
theorem listText_le (ts : List Str) : (listText ts).length ≤ piled ts + 2 := by
  have := from_len ts 0 "["
  have e1 : (("[" : String) : Str).length = 1 := rfl
  have e2 : (("]" : String) : Str).length = 1 := rfl
  unfold listText
  rw [strLen_append]
  omega
end Z
namespace Z
open PySem PySem.Spec PyProof.Rows L2
section
variable {X : Cx}
/-- {l}, l a list of texts, not empty: some text, no longer than ten times its signs and a little -/
def tFmtL (K : PySem.W.Frag) (te : TE) : TE := fun σ H Q => te σ H fun x H1 => ∃ (a : Addr) (y : Str) (l : List Str), x = .ref a ∧ SqL K H1 a ((y :: l).map V.str) ∧ (∀ z ∈ y :: l, ∀ c ∈ z.cps.toList, c < 16 ^ 8) ∧ fmtCost (y :: l) + 7 ≤ sizeLine ∧ ∀ m : Str, m.length ≤ fmtCost (y :: l) + 7 → Q (.str m) H1
theorem pe_fmtL {e : Expr} {te : TE} {pos : Pos} {k : Nat} (hr : Room k X.A) (he : PE X e te) : PE X (.FormattedValue e (-1) none pos) (tFmtL X.K te) := by
  refine ⟨fun pins s σ H Q I h => ?_⟩
  refine wpAny_FormattedValue_plain (thn (he.run pins s σ H _ I h) fun v s1 hv => ?_)
  obtain ⟨x, H1, I1, r1, a, y, l, rfl, ht, hc, hz, q⟩ := hv
  cases r1
  obtain ⟨its, rv, pl, _⟩ := I1.list ht
  obtain ⟨o, ho, hcl, n, hd⟩ := pl.isList
  have hp := fmt_piled (y :: l) hc
  have htx := listText_le ((y :: l).map reprText)
  have hu := hr.units
  cases rv with
  | @cons _ u _ us r1 r2 =>
    refine z_listFmt (ts := (y :: l).map reprText) (by omega) ⟨o, ho, hcl⟩ ho hd (repr_all (.cons r1 r2) fun z hz => ?_) (by omega) fun m u tk h' k hm => ⟨.str m, H1, I1.kept k, ⟨u, rfl⟩, q m (by omega)⟩
    have h1 := StrLaws.reprText_len z (hc z hz)
    have h2 := fmtCost_mem hz
    omega
end
end Z

set_option Elab.async false
set_option linter.all false
set_option maxRecDepth 100000
set_option maxHeartbeats 400000
/-! an exception that has a field already: its field read, its base's __init__ -/
namespace Z
open PySem PySem.Spec PyProof.Rows L2 PySem.OEX
section
variable {prog : Program} {w : World} {A : Around} {R : Result → Shared → Prop} {g : Array GenState} {d : Drawn} {t : Nat} {os : OsState} {h : Heap} {B newId initId : String} {bmB : List Value}
variable {C : Addr}
theorem z_initD (F : ExcBaseFacts B newId initId bmB) {e t0 : Addr} {od : Option Addr} {rest : List Value}
    (hk : ∀ {Q : Unit → Shared → Prop} {E : Value → Shared → Prop} {M : Model} {A' : Around}, Q () ⟨h, g, d, t, os⟩ → wpAny M A' (checkBuiltinCall initId ⟨.ref e :: rest, []⟩) Q E ⟨h, g, d, t, os⟩)
    (he : h.get? e = some ({ cls := .ref C, dict := od, data := .fields #[.ref t0, .none, .none, .none, .bool false, .none] } : Obj)) (hrest : rest.length ≤ sizeLine)
    (hq : ∀ h' t1, (∀ b o, b ≠ e → h.get? b = some o → h'.get? b = some o) → h'.get? e = some ({ cls := .ref C, dict := od, data := .fields #[.ref t1, .none, .none, .none, .bool false, .none] } : Obj) → R (.ok (.ret .none)) ⟨h', g, d, t, os⟩) :
    codeAny (model prog w) A (.call (.builtin initId) ⟨.ref e :: rest, []⟩) R ⟨h, g, d, t, os⟩ := by
  refine codeAny_call_builtin F.init.plain F.initEntry (hk ?_)
  wp_walk
  refine hq _ h.objs.size (fun b o hb ho => ?_) ?_
  · rw [Heap.get?_update_other _ _ (Ne.symm hb)]
    exact Heap.get?_push_of_some _ ho
  · rw [Heap.get?_update_self _ (Heap.get?_push_of_some _ he) rfl]
    rfl
end
end Z
namespace Z
open PySem PySem.Spec PyProof.Rows L2 PySem.OEX
section
variable {X : Cx} {pins : List (Addr × Obj)} {σ : L2.St} {H : Hp} {s : Shared} {a C : Addr} {dx : Option Addr} {E : Value → Shared → Prop}
theorem z_oinitD {us : List Value} {Q : Value → Shared → Prop} (T : OexC X.K C) (I : Inv X pins σ H s) (e : H a = some (exo a C dx)) (hl : us.length ≤ sizeLine) (h : ∀ s', Inv X pins σ H s' → Q .none s') :
    wpAny (model X.prog X.w) X.A (call (.builtin "ValueError.__init__") (.ref a :: us)) Q E s := by
  obtain ⟨nm, q, N, bs, bm, sn, sub, ab, col, dd, k0, k1, k2, k3, k5, hC, hbm⟩ := T.cls
  obtain ⟨t1, ho⟩ := exo_at I.hok e
  obtain ⟨hp, g, d, t, os⟩ := s
  refine wpAny_call (z_initD PySem.F.excBase_ValueError (fun {Q E M A'} hq => PySem.HandSPX.check_init_own PySem.F.excBase_ValueError (fun Y => PySem.HandSPX.refsVE_contains Y bm hbm) (I.kIn _ _ hC) ho rfl hq) ho hl fun h' t2 k hx => ?_)
  have J := I.write (t' := t) (x := a) (e := a) (o := exo a C dx) (by rw [e]; exact True.intro) (.inl rfl) k ⟨_, hx⟩ (exo_ok hx)
  have eu : upd H a (exo a C dx) = H := by
    funext b
    by_cases hb : b = a
    · rw [hb, upd_same, e]
    · rw [upd_ne hb]
  rw [eu] at J
  exact h _ J
end
/-- ThrowError.__init__(self, ..) behind a field that is set -/
def tVeD (K : PySem.W.Frag) (ta : TA) : TE := fun σ H Q => ta σ H fun vs H1 => ∃ (a C : Addr) (ws : List V) (d : Option Addr), vs = .ref a :: ws ∧ ws.length ≤ 1000 ∧ OexC K C ∧ H1 a = some (exo a C d) ∧ Q .non H1
/-- self.f of an exception in its own __init__ -/
def tXat (K : PySem.W.Frag) (f : Str) (te : TE) : TE := fun σ H Q => te σ H fun x H1 => ∃ (a C dd : Addr) (fs : List (Str × V)) (v : V), x = .ref a ∧ XfC K C ∧ PySem.W.findIn K (.ref C) f = some none ∧ H1 a = some (exo a C (some dd)) ∧ H1 dd = some (exd dd fs) ∧ fs.lookup f = some v ∧ Q v H1
section
variable {X : Cx} {x : Str} {e : Expr} {es : List Expr} {t : TA} {te : TE} {pos : Pos}
theorem z_tinitD {p1 p2 : Pos} {pl : Sem Bool} (hg : Gl X x) (c : CalT X.K X.mg x) (ha : PA X (e :: es) t)
    (hc : eval (.Call (.Attribute (.Name x p1) "__init__" p2) (e :: es) [] pos) X.env = (do
      let ov ← eval (.Name x p1) X.env
      standAt p2.atName
      let (f, first) ← holding [ov] (getMethod ov "__init__" pl)
      callWith pos f first (backTo pos (starEach (e :: es) X.env)) (backToKw pos (keywordEach [] X.env))) := by rfl)
    (hdb : (x == ("__debug__" : Str)) = false := by decide) (he : starEach (e :: es) X.env = (false, eval e X.env) :: starEach es X.env := by rfl)
    (hpl : (backTo pos (starEach es X.env)).any (·.1) = false := by rfl) :
    PE X (.Call (.Attribute (.Name x p1) "__init__" p2) (e :: es) [] pos) (tVeD X.K t) := by
  obtain ⟨T, mc, hm, r, vV⟩ := c
  constructor
  intro pins s σ H Q I h
  refine PySem.W.methodCall_KW (ld_glob I hg hm ?_ hdb) hc
  apply PySem.W.method_cls I.kIn r.ga
  apply PySem.W.cls_value I.kIn r.rd vV (by decide +kernel)
  show wpAny _ _ (callWith pos (Value.builtin "ValueError.__init__") [] (backTo pos (starEach (e :: es) X.env)) []) _ _ _
  refine PyProof.Rows.callWith_method1 (thn (ha.run pos pins _ σ H _ (I.tok _) h) fun us s1 hh => ?_) he hpl
  obtain ⟨vs, H1, I1, r1, a, C, ws, d, ev, hl, T', ea, q⟩ := hh
  subst ev
  cases r1 with
  | @cons _ u0 _ ur ra rw' =>
    obtain rfl : u0 = Value.ref a := ra
    have hlen : ur.length ≤ sizeLine := by
      rw [← Paired.length rw', sizeLine_eq]
      omega
    exact z_oinitD T' I1 ea hlen fun s' J => ⟨.non, H1, J, rfl, q⟩
theorem pe_xat {n : Str} (he : PE X e te) (hb : attributeBase e n X.env (eval e X.env) = eval e X.env := by rfl) : PE X (.Attribute e n pos) (tXat X.K n te) := by
  refine ⟨fun pins s σ H Q I h => ?_⟩
  refine attr_of hb (thn (he.run pins s σ H _ I h) fun u s1 hh => ?_)
  obtain ⟨x, H1, I1, rx, a, C, dd, fs, v, ex, T, hno, ea, ed, l, q⟩ := hh
  subst ex
  obtain rfl : u = Value.ref a := rx
  obtain ⟨t1, ho⟩ := exo_at I1.hok ea
  obtain ⟨mA, hns, hr⟩ := exd_at I1.hok ed
  obtain ⟨od, ho2, hl⟩ := lookIn_ns hns
  obtain ⟨u, hu, ru⟩ := RelO.some_of (v := v) (o := mA n) (by rw [← l]; exact hr n)
  have J : PySem.W.InstAt s1.heap a _ C (some od) := ⟨ho, rfl, rfl, ho2⟩
  exact HandSPX.exc_get I1.kIn J T.ga T.gg T.exC (PySem.W.findObj_own T.hdC hno rfl (by rw [hl, hu])) (handed_of ru) ⟨v, H1, I1.tok _, ru, q⟩
end
/-! readings -/
section
variable {K : PySem.W.Frag} {σ : L2.St} {H : Hp} {Q : VK} {te : TE} {tr : TA}
def rVeD (K : PySem.W.Frag) (vs : List V) (H1 : Hp) (Q : VK) : Prop := ∃ (a C : Addr) (ws : List V) (d : Option Addr), vs = .ref a :: ws ∧ ws.length ≤ 1000 ∧ OexC K C ∧ H1 a = some (exo a C d) ∧ Q .non H1
theorem i_tvd (h : tr σ H (fun vs H1 => rVeD K vs H1 Q)) : tVeD K tr σ H Q := h
theorem i_tvd1 {a C : Addr} {ws : List V} {d : Option Addr} (T : OexC K C) (e : H a = some (exo a C d)) (l : ws.length ≤ 1000) (h : Q .non H) : rVeD K (.ref a :: ws) H Q := ⟨a, C, ws, d, rfl, l, T, e, h⟩
def rXat (K : PySem.W.Frag) (f : Str) (x : V) (H1 : Hp) (Q : VK) : Prop := ∃ (a C dd : Addr) (fs : List (Str × V)) (v : V), x = .ref a ∧ XfC K C ∧ PySem.W.findIn K (.ref C) f = some none ∧ H1 a = some (exo a C (some dd)) ∧ H1 dd = some (exd dd fs) ∧ fs.lookup f = some v ∧ Q v H1
theorem i_xat {f : Str} (h : te σ H (fun x H1 => rXat K f x H1 Q)) : tXat K f te σ H Q := h
theorem i_xat1 {f : Str} {a C dd : Addr} {v : V} (T : XfC K C) (n : PySem.W.findIn K (.ref C) f = some none) (e : H a = some (exo a C (some dd))) (ed : H dd = some (exd dd [(f, v)])) (h : Q v H) : rXat K f (.ref a) H Q := ⟨a, C, dd, _, v, rfl, T, n, e, ed, by simp [List.lookup], h⟩
def rFmtL (K : PySem.W.Frag) (x : V) (H1 : Hp) (Q : VK) : Prop := ∃ (a : Addr) (y : Str) (l : List Str), x = .ref a ∧ SqL K H1 a ((y :: l).map V.str) ∧ (∀ z ∈ y :: l, ∀ c ∈ z.cps.toList, c < 16 ^ 8) ∧ fmtCost (y :: l) + 7 ≤ sizeLine ∧ ∀ m : Str, m.length ≤ fmtCost (y :: l) + 7 → Q (.str m) H1
theorem i_fmtL (h : te σ H (fun x H1 => rFmtL K x H1 Q)) : tFmtL K te σ H Q := h
end
end Z

set_option Elab.async false
set_option linter.all false
set_option maxRecDepth 100000
set_option maxHeartbeats 400000
/-! comprehensions over ranges, read -/
namespace Z
open PySem PySem.Spec PyProof.Rows L2
section
variable {K : PySem.W.Frag} {σ : L2.St} {H : Hp} {g g1 : TG} {tt tt1 : TT} {te tl1 : TE} {tr : TA} {Q : VK}
def rLcR2 (g : TG) (tt : TT) (te : TE) (vs : List Nat) (σ : L2.St) (Q : VK) (ws : List V) (H1 : Hp) : Prop := ∃ i j : Int, ws = [.int i, .int j] ∧ (-(2 ^ 62) ≤ i ∧ i < 2 ^ 62 ∧ -(2 ^ 62) ≤ j ∧ j < 2 ^ 62) ∧ ∀ D, H1 D = none → ∃ W : Nat → Nat → Hp → Prop, (∃ m, W 0 m (upd H1 D (.lst []))) ∧ ∀ k m H, W k m H →
  ((Itr i (j - i).toNat).stop k H ∧ Q (.ref D) H) ∨ ((Itr i (j - i).toNat).go k H ∧ ∃ Nx : Hp → Prop, (∀ H', Nx H' → ∃ m', m' < m ∧ W (k + 1) m' H') ∧ ∀ x H', (Itr i (j - i).toNat).yld k H x H' → g x (wipe σ vs) H' fun σ2 H2 => wipe σ2 vs = wipe σ vs ∧ tt σ2 H2 fun b H3 =>
    if b = true then te σ2 H3 fun y H4 => ∃ acc, H4 D = some (.lst acc) ∧ acc.length < sizeLine ∧ Nx (upd H4 D (.lst (acc ++ [y]))) else Nx H3)
theorem i_lcR20 {vs : List Nat} (h : tr σ H (fun ws H1 => rLcR2 g tt te vs σ Q ws H1)) : tLc (iRng2 tr) g tt te vs σ H Q := h
theorem i_lcR2 {vs : List Nat} {n : Nat} {i j : Int} (hj : j - i = (n : Int)) (hi : 0 ≤ i ∧ i < 1000) (hn : n < 100000) (Pv : Nat → List V → Hp → Prop) (h0 : ∀ D H', H D = none → Same H H' → H' D = some (.lst []) → (∀ b, b ≠ D → H' b = H b) → Pv 0 [] H')
    (hs : ∀ k D ys H1, H D = none → k < n → H1 D = some (.lst ys) → Pv k ys H1 → g (.int (i + (k : Nat))) (wipe σ vs) H1 fun σ2 H2 => wipe σ2 vs = wipe σ vs ∧ tt σ2 H2 fun b H3 => if b = true then te σ2 H3 fun y H4 => rLcE D Pv k y H4 else LcS D Pv (k + 1) H3)
    (hd : ∀ D ys H1, H D = none → H1 D = some (.lst ys) → Pv n ys H1 → Q (.ref D) H1) : rLcR2 g tt te vs σ Q [.int i, .int j] H := by
  refine ⟨i, j, rfl, by omega, fun D hD => ?_⟩
  have e : (j - i).toNat = n := by omega
  rw [e]
  refine lc_range (LcS D Pv) ⟨[], upd_same, h0 D _ hD (fun b o e => by rw [upd_ne (ne_of_none e hD)]; exact e) upd_same (fun b hb => upd_ne hb)⟩ ?_ ?_
  · rintro k H' hk ⟨ys, hD', p⟩
    exact hs k D ys H' hD hk hD' p
  · rintro H' ⟨ys, hD', p⟩
    exact hd D ys H' hD hD' p
/-- two fors, the outer one over a range -/
def rLc2R (K : PySem.W.Frag) (g : TG) (tt : TT) (tl1 : TE) (g1 : TG) (tt1 : TT) (te : TE) (vs vs1 : List Nat) (σ : L2.St) (Q : VK) (ws : List V) (H1 : Hp) : Prop := ∃ j : Int, ws = [.int j] ∧ -(2 ^ 62) ≤ j ∧ j < 2 ^ 62 ∧ ∀ D, H1 D = none → ∃ W : Nat → Nat → Hp → Prop, (∃ m, W 0 m (upd H1 D (.lst []))) ∧ ∀ i m H, W i m H →
  ((Itr 0 j.toNat).stop i H ∧ Q (.ref D) H) ∨ ((Itr 0 j.toNat).go i H ∧ ∃ Nx : Hp → Prop, (∀ H', Nx H' → ∃ m', m' < m ∧ W (i + 1) m' H') ∧ ∀ x H', (Itr 0 j.toNat).yld i H x H' → g x (wipe σ vs) H' fun σ2 H2 => wipe σ2 vs = wipe σ vs ∧ tt σ2 H2 fun b H3 =>
    if b = true then tl1 σ2 H3 fun x1 H4 => rLcIn K D Nx g1 tt1 te vs1 σ2 x1 H4 else Nx H3)
theorem i_lc2R0 {vs vs1 : List Nat} (h : tr σ H (fun ws H1 => rLc2R K g tt tl1 g1 tt1 te vs vs1 σ Q ws H1)) : tLc2 (iRng1 tr) g tt (iAny K tl1) g1 tt1 te vs vs1 σ H Q := h
theorem i_lc2R {vs vs1 : List Nat} {n : Nat} (hn : n < 100000) (Pv : Nat → List V → Hp → Prop) (h0 : ∀ D H', H D = none → Same H H' → H' D = some (.lst []) → (∀ b, b ≠ D → H' b = H b) → Pv 0 [] H')
    (hs : ∀ k D ys H1, H D = none → k < n → H1 D = some (.lst ys) → Pv k ys H1 → g (.int (k : Nat)) (wipe σ vs) H1 fun σ2 H2 => wipe σ2 vs = wipe σ vs ∧ tt σ2 H2 fun b H3 => if b = true then tl1 σ2 H3 fun x1 H4 => rLcIn K D (LcS D Pv (k + 1)) g1 tt1 te vs1 σ2 x1 H4 else LcS D Pv (k + 1) H3)
    (hd : ∀ D ys H1, H D = none → H1 D = some (.lst ys) → Pv n ys H1 → Q (.ref D) H1) : rLc2R K g tt tl1 g1 tt1 te vs vs1 σ Q [.int (n : Nat)] H := by
  refine ⟨_, rfl, by omega, by omega, fun D hD => ?_⟩
  rw [Int.toNat_natCast]
  refine ⟨fun i m H => m = n - i ∧ i ≤ n ∧ LcS D Pv i H, ⟨n, by simp, Nat.zero_le _, [], upd_same, h0 D _ hD (fun b o e => by rw [upd_ne (ne_of_none e hD)]; exact e) upd_same (fun b hb => upd_ne hb)⟩, ?_⟩
  rintro i m H' ⟨rfl, hi, ys, hD', p⟩
  by_cases hlt : i < n
  · refine .inr ⟨hlt, LcS D Pv (i + 1), fun H'' p' => ⟨n - (i + 1), by omega, rfl, hlt, p'⟩, fun x H'' y => ?_⟩
    obtain ⟨e, y⟩ := y
    subst e
    have := hs i D ys _ hD hlt hD' p
    obtain ⟨rfl⟩ := y
    simpa using this
  · have e : i = n := by omega
    subst e
    exact .inl ⟨Nat.le_refl _, hd D ys H' hD hD' p⟩
end
end Z

set_option Elab.async false
set_option linter.all false
set_option maxRecDepth 100000
set_option maxHeartbeats 4000000
/-! the truth of an own object; x[::-1] of a list or a tuple; xs != ys of lists of lists; a list's last item -/
namespace Z
open PySem PySem.Spec PyProof.Rows L2
section
variable {X : Cx} {k j : Nat} {f C : Addr} {sp : Sp}
/-- the truth of an instance with its own __bool__ -/
def rTruO (C : Addr) (sp : Sp) : V → Hp → (Bool → Hp → Prop) → Prop := fun x H Q => ∃ a dx fs, x = .ref a ∧ H a = some (.ins C dx fs) ∧
  sp [.ref a] H (fun v H' => ∃ r, v = .bl r ∧ Q r H') (fun _ _ _ => False)
theorem tru_own (F : FnR X.prog X.w X.K X.mg X.base (L2.CX X.prog X.w) k f sp) (hr : Room k X.A) (S : Spc X.K C "__bool__" f) : TruR X (rTruO C sp) := by
  intro pins s σ H x v Q I rx h
  obtain ⟨a, dx, fs, rfl, ea, h⟩ := h
  obtain rfl : v = Value.ref a := rx
  obtain ⟨ox, od, Ja⟩ := instAt I ea
  obtain ⟨m, fr⟩ := I.fr
  apply PySem.W.truthy_K fr I.ok.mod.kin Ja S.at_ S.fn
  refine wpAny_call (codeAny_mono (F X.A X.stack s H [.ref a] [.ref a] _ (fun _ _ _ => False) hr I.env0 (.cons rfl .nil) h) fun q s' hq => ?_)
  rcases q with e | fl
  · exact (cxN hq).elim
  rcases fl with _ | _ | _ | u'
  · exact False.elim hq
  · exact False.elim hq
  · exact False.elim hq
  obtain ⟨v', H', J', rv, r, ev, q⟩ := I.after hq
  subst ev
  obtain rfl : u' = Value.bool r := rv
  exact ⟨H', J', q⟩
def tTruO (C : Addr) (sp : Sp) (ta : TE) : TT := fun σ H Q => ta σ H fun x H' => rTruO C sp x H' Q
theorem z_truO {a : Expr} {ta : TE} (c : CalO X.prog X.w X.K X.mg X.base C "__bool__" k sp) (hr : Room j X.A) (ha : PE X a ta) (he : ∀ whole, isTrue a X.env whole = (do let v ← whole; standAt a.pos; holding [v] (truthy v))) (hj : k ≤ j := by decide) : PT X a (tTruO C sp ta) := by
  obtain ⟨f, S, sf, F⟩ := c
  exact pt_truthR ha (tru_own F (hr.mono hj) S) he
end
section
variable {prog : Program} {w : World} {A : Around} {E : Value → Shared → Prop} {s : Shared}
theorem places_back (n : Nat) : Builtin.Slice.slicePlaces ((n : Int) - 1) (-1) (-1) = n := by
  unfold Builtin.Slice.slicePlaces
  have h1 : ¬ ((-1 : Int) > 0) := by omega
  have h2 : (- (-1) : Int) = 1 := rfl
  simp only [h1, if_false, h2, Int.ediv_one]
  split <;> omega
theorem fm_congr {α β : Type} {f g : α → Option β} : ∀ {l : List α}, (∀ x ∈ l, f x = g x) → l.filterMap f = l.filterMap g
  | [], _ => rfl
  | x :: l, h => by
    rw [List.filterMap_cons, List.filterMap_cons, h x List.mem_cons_self, fm_congr fun y hy => h y (List.mem_cons_of_mem _ hy)]
theorem pick_back (xs : Array Value) : ((List.range xs.size).filterMap fun (m : Nat) => xs[(((xs.size : Int) - 1) + (m : Int) * (-1)).toNat]?).toArray = xs.toList.reverse.toArray := by
  have := PySem.W.krv_pick xs
  unfold slicePick at this
  rw [PySem.W.krv_bounds] at this
  rw [PySem.W.krv_sliceRange, List.filterMap_map] at this
  rw [← this]
  congr 1
  refine fm_congr fun m hm => ?_
  have hm := List.mem_range.mp hm
  have e : (((xs.size : Int) - 1) + (m : Int) * (-1)).toNat = xs.size - 1 - m := by omega
  rw [e]
  rfl
theorem backApplied {sl : Addr} {vs : Value} {n : Nat} {Q : Int × Int × Nat → Shared → Prop} (hs : s.heap.IsSliceOf sl .none .none vs) (ps : IsPart vs (some (-1)))
    (h : Q ((n : Int) - 1, -1, n) s) : wpAny (model prog w) A (Builtin.Slice.sliceApplied (.ref sl) (pure (n : Int))) Q E s := by
  obtain ⟨os, hos, hcs, hds⟩ := id hs
  unfold Builtin.Slice.sliceApplied Builtin.Slice.sliceFields
  refine wpAny_bind (wpAny_bind (wpAny_field hos hds (x := .none) rfl (wpAny_bind (wpAny_field hos hds (x := .none) rfl (wpAny_bind (wpAny_field hos hds (x := vs) rfl (wpAny_pure ?_)))))))
  refine wpAny_bind (HT.slicePart_ ps ?_)
  show wpAny _ _ (if ((-1 : Int) == 0) = true then _ else _) _ _ s
  rw [if_neg (by decide)]
  refine wpAny_bind (HT.slicePart_ .none (wpAny_bind (HT.slicePart_ .none (wpAny_bind (wpAny_pure ?_)))))
  have e : Builtin.Slice.sliceAdjust none none (-1) (n : Int) = ((n : Int) - 1, -1) := by
    unfold Builtin.Slice.sliceAdjust
    simp
  show wpAny _ _ (match Builtin.Slice.sliceAdjust none none (-1) (n : Int) with | (lo, hi) => pure (lo, (-1 : Int), Builtin.Slice.slicePlaces lo hi (-1))) _ _ s
  rw [e]
  show wpAny _ _ (pure ((n : Int) - 1, (-1 : Int), Builtin.Slice.slicePlaces ((n : Int) - 1) (-1) (-1))) _ _ s
  rw [places_back]
  exact wpAny_pure h
theorem tupBack {t sl : Addr} {its : Array Value} {vs : Value} {Q : Value → Shared → Prop} (ht : IsTup s.heap t its) (hs : s.heap.IsSliceOf sl .none .none vs) (ps : IsPart vs (some (-1)))
    (h : Q (.ref s.heap.objs.size) { s with heap := s.heap.push { cls := .type "tuple", data := .seq its.toList.reverse.toArray } }) (hsz : its.size ≤ sizeLine) : wpAny (model prog w) A (getItem (.ref t) (.ref sl)) Q E s := by
  have hz : sizeOk (.seq its.toList.reverse.toArray) := by
    show its.toList.reverse.toArray.size ≤ sizeLine
    simpa using hsz
  obtain ⟨os, hos, hcs, hds⟩ := id hs
  have hTs : s.TypeIs (.ref sl) "slice" := ⟨os, hos, hcs⟩
  unfold getItem; try with_reducible refine wpAny_holding ?_
  first | refine wpAny_bind (wpAny_pure ?_) | skip
  refine wpAny_bind (wpAny_sequenceKey ht.typeIs (by decide) ?_); refine wpAny_bind (wpAny_callSpecial?_slot (name := Str.ofString "__getitem__") ht.typeIs PyProof.Rows.slot_tuple_getitem (wpAny_call_entry PyProof.Rows.slot_tuple_getitem ht.typeIs entry_tuple_getitem ?_ (args_tuple_getitem _ _)))
  show wpAny _ _ (Builtin.Tuple.tupleItemsOf (.ref t) >>= _) _ _ s; refine wpAny_bind (tupleItemsOf_ ht ?_); refine wpAny_bind (wpAny_typeOf hTs ?_)
  rw [if_pos (by decide)]; refine wpAny_bind (backApplied (n := its.size) hs ps ?_)
  show wpAny _ _ (if ((((its.size : Int) - 1) == 0) && ((-1 : Int) == 1) && (its.size == its.size)) = true then _ else _) _ _ s
  rw [if_neg (by simp), pick_back]
  first
    | exact wpAny_bind (m := Builtin.Tuple.tupleExact _) (wpAny_newObj_type (wpAny_pure ⟨_, rfl, wpAny_pure h⟩) hz)
    | exact wpAny_bind (m := Builtin.Tuple.tupleExact _) (wpAny_newObj_type (wpAny_bind (wpAny_pure (wpAny_pure ⟨_, rfl, wpAny_pure h⟩))) hz)
    | exact wpAny_bind (wpAny_bind (m := Builtin.Tuple.tupleExact _) (wpAny_newObj_type (wpAny_pure (wpAny_pure ⟨_, rfl, wpAny_pure h⟩)) hz))
    | exact wpAny_bind (wpAny_bind (m := Builtin.Tuple.tupleExact _) (wpAny_newObj_type (wpAny_pure ⟨_, rfl, wpAny_pure h⟩) hz))
end
section
variable {X : Cx}
/-- x[::-1], x a list or a tuple -/
def tRevA (K : PySem.W.Frag) (te : TE) : TE := fun σ H Q => te σ H fun x H1 => ∃ a xs, x = .ref a ∧ ((SqL K H1 a xs ∧ ∀ p, H1 p = none → Q (.ref p) (upd H1 p (.lst xs.reverse))) ∨ (SqT K H1 a xs ∧ ∀ p, H1 p = none → Q (.ref p) (upd H1 p (.tup xs.reverse))))
theorem pe_revA {K : PySem.W.Frag} {e : Expr} {te : TE} {k : Nat} {p1 p2 p3 pos : Pos} (hK : X.K = K) (he : PE X e te) : PE X (.Subscript e (.Slice none none (some (.UnaryOp .USub (.Constant (.int 1) k p1) p2)) p3) pos) (tRevA K te) := by
  subst hK
  refine ⟨fun pins s σ H Q I h => ?_⟩
  refine Subscript_ (thn (he.run pins s σ H _ I h) fun v s1 ⟨x, H1, I1, r1, q1⟩ => ?_)
  obtain ⟨a, xs, ex, q⟩ := q1
  subst ex
  cases r1
  have hst : PO X (some (.UnaryOp .USub (.Constant (.int 1) k p1) p2)) (tPart (tUn (rU fun i => .int (-i)) (tC (.int 1)))) := po_some (pe_un un_neg pe_int)
  refine wpAny_Slice (thn (po_none.run pins s1 σ H1 (fun o H2 => o = none ∧ H2 = H1) I1 ⟨rfl, rfl⟩) fun vl s2 ⟨l, H2, I2, pl, el, e2⟩ => ?_)
  subst el e2
  refine thn (po_none.run pins s2 σ H2 (fun o H3 => o = none ∧ H3 = H2) I2 ⟨rfl, rfl⟩) fun vu s3 ⟨u, H3, I3, pu, eu, e3⟩ => ?_
  subst eu e3
  refine thn (hst.run pins s3 σ H3 (fun o H4 => o = some (-1) ∧ H4 = H3) I3 ⟨1, rfl, -1, rfl, rfl, rfl⟩) fun vs s4 ⟨o, H4, I4, ps, eo, e4⟩ => ?_
  subst eo e4
  have I5 : Inv X pins σ H4 { s4 with heap := s4.heap.push { cls := .type "slice", data := .fields #[vl, vu, vs] } } := I4.kept (t' := s4.toks) fun b ob q => Heap.get?_push_of_some _ q
  cases pl
  cases pu
  rcases q with ⟨hx, q⟩ | ⟨hx, q⟩
  · obtain ⟨its, r, ht, hz⟩ := I5.list hx
    have hlen := r.length
    show wpAny (model X.prog X.w) X.A (subscriptTail e (.Slice none none (some (.UnaryOp .USub (.Constant (.int 1) k p1) p2)) p3) (.ref a) (.ref s4.heap.objs.size)) (EP X pins σ Q) X.xe _
    refine tail_any (ops := [.ref a, .ref s4.heap.objs.size]) ht.isList.typeIs (PySem.slot_list_getitem.lookup) ?_ (by with_unfolding_all rfl)
    refine wpAny_getItem_list_slice ht.isList (Heap.IsSliceOf.new _ _ _ vs) .none .none ps (by decide) ?_ (by rw [List.size_toArray]; omega)
    rw [PySem.W.krv_pick]
    refine ⟨.ref _, _, I5.laid (t' := s4.toks) (o := .lst xs.reverse) (fun b ob q => Heap.get?_push_of_some _ q) (Nat.le_refl _) ?_, rfl, q _ (I5.hok.fresh (Nat.le_refl _))⟩
    exact ⟨by rw [List.length_reverse]; exact hz, _, 0, r.reverse, Heap.get?_push_size _ rfl⟩
  · obtain ⟨its, r, ht, hz⟩ := I5.tuple hx
    have hlen := r.length
    show wpAny (model X.prog X.w) X.A (subscriptTail e (.Slice none none (some (.UnaryOp .USub (.Constant (.int 1) k p1) p2)) p3) (.ref a) (.ref s4.heap.objs.size)) (EP X pins σ Q) X.xe _
    refine tail_any (ops := [.ref a, .ref s4.heap.objs.size]) ht.typeIs PyProof.Rows.slot_tuple_getitem.lookup ?_ (by with_unfolding_all rfl)
    refine tupBack ht (Heap.IsSliceOf.new _ _ _ vs) ps ?_ (by rw [List.size_toArray]; omega)
    refine ⟨.ref _, _, I5.laid (t' := s4.toks) (o := .tup xs.reverse) (fun b ob q => Heap.get?_push_of_some _ q) (Nat.le_refl _) ?_, rfl, q _ (I5.hok.fresh (Nat.le_refl _))⟩
    exact ⟨by rw [List.length_reverse]; exact hz, _, r.reverse, IsTup.new _ _⟩
theorem u1n {k : Nat} {A : Around} (r : Room k A) : A.units + 1 < cLine := by have := r.units; omega
/-- xs != ys, lists of lists of the very same objects -/
def rNeLL : R2 := fun x y H Q => ∃ a b ls ms, x = .ref a ∧ y = .ref b ∧ H a = some (.lst ls) ∧ H b = some (.lst ms) ∧ ls.length = ms.length ∧
  (∀ (i : Nat) (u v : V), ls[i]? = some u → ms[i]? = some v → ∃ p q xs, u = .ref p ∧ v = .ref q ∧ p ≠ q ∧ H p = some (.lst xs) ∧ H q = some (.lst xs) ∧ ∀ z ∈ xs, ∃ r, z = .ref r) ∧ Q (.bl false) H
theorem vals_one {zs : List V} (hz : ∀ z ∈ zs, ∃ p, z = .ref p) {us vs : List Value} (r1 : Vals zs us) (r2 : Vals zs vs) : us = vs := by
  induction zs generalizing us vs with
  | nil =>
    cases r1; cases r2; rfl
  | cons z zs ih =>
    cases r1 with
    | cons a1 t1 =>
      cases r2 with
      | cons a2 t2 =>
        obtain ⟨p, ep⟩ := hz z (by simp)
        subst ep
        cases a1; cases a2
        rw [ih (fun z h => hz z (by simp [h])) t1 t2]
theorem z_neLL (hu : X.A.units + 1 < cLine) : OpR X (compareOp .NotEq) rNeLL := by
  intro pins s σ H x y v u Q I rx ry h
  obtain ⟨a, b, ls, ms, rfl, rfl, ha, hb, hl, hz, q⟩ := h
  obtain rfl : v = Value.ref a := rx
  obtain rfl : u = Value.ref b := ry
  obtain ⟨_, its, n, rv, e⟩ := (show ObjOk X.prog X.w H s.heap a (.lst ls) from I.hok a _ ha)
  obtain ⟨_, its2, n2, rv2, e2⟩ := (show ObjOk X.prog X.w H s.heap b (.lst ms) from I.hok b _ hb)
  have l1 := rv.length
  have l2 := rv2.length
  show wpAny _ X.A (richCompare .NotEq _ _) _ _ s
  refine SeqAt.RcNeAt.lists (e := fun _ => true) ⟨_, e, rfl, n, rfl⟩ ⟨_, e2, rfl, n2, rfl⟩ (by simp; omega) (by omega) (fun j h1 h2 => ?_) X.prog X.w _ _ ?_
  · have j1 : j < its.length := by simpa using h1
    have j2 : j < its2.length := by simpa using h2
    obtain ⟨u1, g1, r1⟩ := rv.get (List.getElem?_eq_getElem (show j < ls.length by omega))
    obtain ⟨u2, g2, r2⟩ := rv2.get (List.getElem?_eq_getElem (show j < ms.length by omega))
    obtain ⟨p, t, xs, ep, et, hne, hp, ht, hr⟩ := hz j _ _ (List.getElem?_eq_getElem (show j < ls.length by omega)) (List.getElem?_eq_getElem (show j < ms.length by omega))
    rw [ep] at r1
    rw [et] at r2
    obtain rfl : u1 = Value.ref p := r1
    obtain rfl : u2 = Value.ref t := r2
    have f1 : its.toArray[j] = Value.ref p := by
      rw [List.getElem?_eq_getElem j1] at g1
      simpa using Option.some.inj g1
    have f2 : its2.toArray[j] = Value.ref t := by
      rw [List.getElem?_eq_getElem j2] at g2
      simpa using Option.some.inj g2
    rw [f1, f2]
    obtain ⟨_, i1, n3, rv3, e3⟩ := (show ObjOk X.prog X.w H s.heap p (.lst xs) from I.hok p _ hp)
    obtain ⟨_, i2, n4, rv4, e4⟩ := (show ObjOk X.prog X.w H s.heap t (.lst xs) from I.hok t _ ht)
    obtain rfl := vals_one hr rv3 rv4
    have key := SeqAt.RcAt.lists (A := X.A.in1) (s := s) (e := fun _ => true) ⟨_, e3, rfl, n3, rfl⟩ ⟨_, e4, rfl, n4, rfl⟩ rfl (by show X.A.units + 1 < cLine; omega) (fun j h1 h2 => SeqAt.EqAt.same _)
    have ea : (List.range i1.toArray.size).all (fun _ => true) = true := by simp
    rw [ea] at key
    exact SeqAt.EqAt.of_refs hne key
  · refine ⟨.bl false, H, I, ?_, q⟩
    have : (List.range its.toArray.size).all (fun _ => true) = true := by simp
    rw [this]
    rfl
end
/-! ### read -/
section
variable {K : PySem.W.Frag} {σ : L2.St} {H : Hp} {te : TE} {Q : VK} {a : Addr} {xs : List V} {n : Nat}
theorem i_popR {v : V} (h : H a = some (.lst (xs ++ [v]))) (q : ∀ H', H' a = some (.lst xs) → (∀ b, b ≠ a → H' b = H b) → Q v H') : rPop (.ref a) [] H Q :=
  ⟨a, _, v, rfl, rfl, h, by simp, q _ (by rw [upd_same, List.dropLast_concat]) fun b hb => upd_ne hb⟩
def rRevA (K : PySem.W.Frag) (x : V) (H1 : Hp) (Q : VK) : Prop := ∃ a xs, x = .ref a ∧ ((SqL K H1 a xs ∧ ∀ p, H1 p = none → Q (.ref p) (upd H1 p (.lst xs.reverse))) ∨ (SqT K H1 a xs ∧ ∀ p, H1 p = none → Q (.ref p) (upd H1 p (.tup xs.reverse))))
theorem i_revA0 (h : te σ H (fun x H1 => rRevA K x H1 Q)) : tRevA K te σ H Q := h
theorem i_revA (s : SqA K H a xs) (h : ∀ p H', H p = none → Same H H' → SqA K H' p xs.reverse → (∀ b, b ≠ p → H' b = H b) → Q (.ref p) H') : rRevA K (.ref a) H Q := by
  have sm : ∀ {p : Addr} {o : HO}, H p = none → Same H (upd H p o) := fun hp b q e => by rw [upd_ne (ne_of_none e hp)]; exact e
  refine ⟨a, xs, rfl, ?_⟩
  rcases s with s | s
  · exact .inl ⟨s, fun p hp => h p _ hp (sm hp) (.l upd_same) fun b hb => upd_ne hb⟩
  · exact .inr ⟨s, fun p hp => h p _ hp (sm hp) (.t upd_same) fun b hb => upd_ne hb⟩
theorem i_truO0 {C : Addr} {sp : Sp} {P : Bool → Hp → Prop} (h : te σ H (fun x H1 => rTruO C sp x H1 P)) : tTruO C sp te σ H P := h
end
end Z

set_option Elab.async false
set_option linter.all false
set_option maxRecDepth 100000
set_option maxHeartbeats 4000000
/-! a def called within an except suite, whatever is handled there -/
namespace Z
open PySem PySem.Spec PyProof.Rows L2 L2H
structure FnL (P : Program) (w : World) (K : PySem.W.Frag) (mg : Str → Option Value) (base : Heap) (k : Nat) (f : Addr) (fd : FuncData) (ps : List Str) (sp : Sp) : Prop where
  len : ∀ vs H Q E, sp vs H Q E → vs.length = ps.length
  run : ∀ (A : Around) (outer : List Env) (s : Shared) (H : Hp) (args : Args) (us : List Value) (vs : List V) (Q : VK) (E : XK) (p : Addr × Obj), RoomH k A → PinOk outer H s p → Env0 P w K mg base A outer s H → BindsTo s fd args (ps.zip us) → Vals vs us → sp vs H Q E → codeAny (model P w) A (.call (.ref f) args) (CR (L2.CX P w) outer P w H s Q E) s
theorem fnL_of {P : Program} {w : World} {K : PySem.W.Frag} {mg : Str → Option Value} {base : Heap} {k : Nat} {f : Addr} {x qual : Str} {st : Stmt} {fd : FuncData} {N ps : List Str} {sp : Sp} (F : L2.Fun K x qual st f fd) (S : FnScope N ps (defScope st)) (len : ∀ vs H Q E, sp vs H Q E → vs.length = ps.length)
    (hbody : ∀ (cdv : Value) (A : Around) (outer : List Env) (s : Shared) (H : Hp) (vs : List V) (Q : VK) (E : XK) (p : Addr × Obj), RoomH k (A.deeper (envOfC qual (defScope st) s.heap.objs.size f cdv)) → sp vs H Q E →
      ∃ t, PSs (cxH (L2.CX P w) P w K mg base N qual (defScope st) f cdv A outer s H E p) (defBody st) t ∧ t { nx := fun _ H' => Q .non H', rt := Q } (L2.start N vs) H) : FnL P w K mg base (k + 1) f fd ps sp := by
  obtain ⟨oc, od, kV, doc, pm, an, cdv, ct, osl, rfl, lk, hcd⟩ := F.ex
  refine ⟨len, fun A outer s H args us vs Q E p hr hpin e0 hb r hsp => ?_⟩
  have hl := len _ _ _ _ hsp
  have KX : K.In s.heap := e0.mod.kin.keeps (fun b o e => (e0.bs b o e).1); have lim : s.heap.NoLimit := e0.mod.nolimit.keeps fun b o e => (e0.bs b o e).1
  have kinds : ∀ y ∈ ps.zip us, (defScope st).names.lookup y.1 = some .local ∨ ((defScope st).names.lookup y.1 = some .cell ∧ ((cellsFrom (s.heap.objs.size + 1) (defScope st).names []).lookup y.1).isSome = true) := by
    rintro ⟨n, v⟩ hy
    exact (S.par n (List.of_mem_zip hy).1).elim .inl fun q => .inr ⟨q, PySem.W.cellsFrom_some _ _ _ (.inl q)⟩
  refine codeAny_call_function hr.depth (KX _ _ lk) rfl S.co S.gen rfl (PySem.W.codeRec_of KX hcd) (hb _ _ _ _ (wpAny_newFunctionEnv_cells S.kind kinds fun env he s1 x => ?_))
  subst he
  obtain ⟨t, ht, hq⟩ := hbody cdv A outer s H vs Q E p (hr.deeper _) hsp
  refine ⟨lim.keeps x.toInCall.keep, codeAny_func (wpAny_mono (ht.run [] s1 (L2.start N vs) H _ (inv_startH (CX := L2.CX P w) S hpin e0 hl r x) hq) (fun fl s' hs => ?_) fun e s' hs => hs)⟩
  rcases fl with _ | _ | _ | u
  · obtain ⟨σ', H', J, q⟩ := hs
    exact ⟨.non, H', J.os, J.bare, J.base, J.hok, rfl, q⟩
  · obtain ⟨_, _, _, q⟩ := hs; exact False.elim q
  · obtain ⟨_, _, _, q⟩ := hs; exact False.elim q
  · obtain ⟨v, σ', H', J, rv, q⟩ := hs
    exact ⟨v, H', J.os, J.bare, J.base, J.hok, rv, q⟩
/-- such a def by its name -/
def CalL (P : Program) (w : World) (K : PySem.W.Frag) (mg : Str → Option Value) (base : Heap) (x : Str) (k : Nat) (sp : Sp) : Prop := ∃ f fd ps, mg x = some (.ref f) ∧ PySem.W.keepIn K (.ref f) = true ∧ Binds K fd ps [] ∧ FnL P w K mg base k f fd ps sp
theorem roomL {k : Nat} {A : Around} {v : Option Value} (r : Room k A) : RoomH k (A.mark v) := ⟨r.dp, r.un⟩
theorem z_callL {X : Cx} {k j : Nat} {x : Str} {sp : Sp} {q pos : Pos} {e : Expr} {es : List Expr} {t : TA} {p : Addr × Obj} (c : CalL X.prog X.w X.K X.mg X.base x k sp) (hr : RoomH j X.A) (hp : p ∈ X.pn) (hx : ∀ σ, PassesAt (L2.CX X.prog X.w) X σ (EN σ)) (ha : PA X (e :: es) t) (hj : k ≤ j := by decide) (hg : Gl X x := by rfl)
    (hdb : (x == ("__debug__" : Str)) = false := by decide) (he : starEach (e :: es) X.env = (false, eval e X.env) :: starEach es X.env := by rfl) (hpl : (backTo pos (starEach es X.env)).any (·.1) = false := by rfl) :
    PE X (.Call (.Name x q) (e :: es) [] pos) (tCallS sp EN t) := by
  obtain ⟨f, fd, ps, hm, hk, hb, F⟩ := c
  refine ⟨fun pins s σ H Q I h => wpAny_Call_Name_kw (ld_glob I hg hm ?_ hdb)⟩
  refine PySem.W.callWith_K (h₀ := X.base) I.ok.mod.kin hk (thn (ha.run pos pins s σ H _ I h) fun us s1 ⟨vs, H1, I1, r, q⟩ => ⟨I1.kIn, ?_⟩) he hpl
  have hl : us.length = ps.length := by rw [← r.length]; exact F.len _ _ _ _ q
  have b := hb s1 us I1.kIn (by rw [List.append_nil]; exact hl)
  rw [List.append_nil] at b
  have P1 := I1.pin p (List.mem_append_left _ hp)
  have pk : PinOk X.stack H1 s1 p := ⟨P1.1, P1.2.1, (fun hm => (List.mem_cons.mp (I1.stkSub p.1 hm)).elim P1.2.2.1 P1.2.2.2.1), P1.2.2.2.2⟩
  refine wpAny_call (codeAny_mono (F.run X.A X.stack s1 H1 ⟨us, []⟩ us vs Q (EN σ) p (hr.mono hj) pk I1.env0 b r q) fun r s' hq => ?_)
  rcases r with e | fl
  · exact hx σ pins H1 s1 e s' I1 hq
  rcases fl with _ | _ | _ | u
  · exact False.elim hq
  · exact False.elim hq
  · exact False.elim hq
  · exact I1.after hq
theorem mk_calL {P : Program} {w : World} {K : PySem.W.Frag} {mg : Str → Option Value} {base h : Heap} {x : Str} {f : Addr} {fd : FuncData} {ps : List Str} {k : Nat} {sp : Sp} (X : K.In h) (G : h.Ns mainGlobals mg) (a : PySem.W.nsIn K mainGlobals x = some (some (.ref f))) (kk : PySem.W.keepIn K (.ref f) = true) (b : Binds K fd ps []) (F : FnL P w K mg base k f fd ps sp) :
    CalL P w K mg base x k sp := ⟨f, fd, ps, PySem.W.mg_of X G a, kk, b, F⟩
theorem kit_b {K : PySem.W.Frag} {C : Addr} {T : String} {b : Bool} (h : PySem.W.kitMeta T = true) (e : PySem.W.subIn K (.ref C) (.type T) = some b) : PySem.W.kitOne K (.ref C) (.type T) = some b := by
  unfold PySem.W.kitOne
  rw [if_neg (by simp)]
  unfold PySem.W.kitCls
  show (if PySem.W.kitMeta T = true then PySem.W.subIn K (.ref C) (.type T) else none) = some b
  rw [if_pos h, e]
end Z

set_option Elab.async false
set_option linter.all false
set_option maxRecDepth 100000
set_option maxHeartbeats 4000000
namespace Z
open PySem PySem.Spec PyProof.Rows L2
local macro_rules | `(tactic| walk_at "sm") => `(tactic| first | (with_reducible assumption) | ((with_reducible refine' IsR.mono ?s ?h); (case s => with_reducible assumption); (case h => walk_at "sm")) | ((with_reducible refine' Same.at ?s ?h); (case s => with_reducible assumption); (case h => walk_at "sm")) | ((with_reducible refine' Same.seq ?s ?h); (case s => with_reducible assumption); (case h => walk_at "sm")) | ((with_reducible refine' SqL.of ?h); (case h => walk_at "sm")))
local macro_rules | `(tactic| walk_at "cd") => `(tactic| first | assumption | exact cmulW (by assumption) (by assumption) | exact cmulW (ZR.Bd.n (by assumption)) (ZR.Bd.n (by assumption)) | exact cmulW (ZR.Bd.n (by assumption)) (ZR.Bd.d (by assumption)) | exact cmulW (ZR.Bd.d (by assumption)) (ZR.Bd.d (by assumption)) | exact cmulW (ZR.Bd.d (by assumption)) (ZR.Bd.n (by assumption)) | exact (by show (0 : Int) < _; decide) | exact .inr ⟨by decide, by decide⟩ | exact .inl ⟨by decide, by decide⟩ | exact ⟨by decide, by decide⟩ | exact ⟨by decide, by decide, by decide⟩)
local macro_rules | `(tactic| walk_at "r1") => `(tactic| first
  | (with_reducible first
  | refine i_seq ?_ | refine i_next ?_ | refine i_asg ?_ | refine i_gname (by with_unfolding_all rfl) ?_ | refine i_ret ?_ | refine i_retN ?_ | refine i_drop ?_ | refine i_ifs ?_ | refine i_test ?_ | refine i_B ?_
  | refine i_bl ?_ | refine i_bl' ?_ | refine i_and ?_ | refine i_or ?_ | refine i_not ?_ | refine i_andV ?_ | refine i_orV ?_ | refine i_notV ?_ | refine i_ifx ?_
  | refine i_tt ?_ | refine i_ff ?_ | refine i_nt ?_ | refine i_nf ?_
  | refine i_var (by with_unfolding_all rfl) ?_ | refine i_c ?_ | refine i_op ?_ | refine i_un ?_ | refine i_cons ?_ | refine i_nil ?_ | refine i_cb ?_ | refine i_call ?_ | refine i_lst0 ?_ | refine i_tup0 ?_
  | refine i_fld0 ?_ | refine i_put0 ?_ | refine i_meth ?_ | refine i_make ?_ | refine i_mkO ?_ | refine i_fmt ?_ | refine i_jsC ?_ | refine i_jsN ?_ | refine i_bits0 ?_ | refine i_bits ?_
  | refine i_revA0 ?_ | refine i_truO0 ?_ | refine i_lcR20 ?_ | refine i_lc2R0 ?_ | refine i_forR20 ?_ | refine i_tvd ?_ | refine i_xat ?_ | refine i_fmtL ?_ | refine i_forA0 ?_ | refine i_enA0 ?_ | refine i_lcA0 ?_ | refine i_lc2A0 ?_ | refine i_dcA0 ?_ | refine i_dget0 ?_ | refine i_din0 ?_ | refine i_dput0 ?_ | refine i_tru0 ?_ | refine i_fmtR ?_ | refine i_bm0 ?_ | refine i_gn ?_ | refine i_xf ?_ | refine i_chain ?_ | refine i_sl ?_ | refine i_noPart ?_ | refine i_part ?_ | refine i_part1 ?_ | refine i_revL ?_ | refine i_lcS0 ?_ | refine i_tve ?_ | refine i_ost ?_ | refine i_forL0 ?_ | refine i_forT0 ?_ | refine i_forR0 ?_ | refine i_lcL0 ?_ | refine i_yes ?_ | refine i_gsub ?_ | refine i_par ?_ | refine i_par1 ?_ | refine i_gc ?_ | refine i_gn ?_ | refine i_bm ?_
  | refine i_rI0 ?_ | refine i_rU ?_ | refine i_eqI ?_ | refine i_neI ?_ | refine i_eqB ?_ | refine i_neB ?_ | refine i_eqS ?_ | refine i_neS ?_ | refine i_gcd ?_)
  | ((with_reducible refine i_rI ?c ?_); (case c => walk_at "cd"))
  | walk_at "r2")
local macro_rules | `(tactic| walk_at "rd") => `(tactic| repeat walk_at "r1")
local macro_rules | `(tactic| walk_at "rb") => `(tactic| ((try dsimp only); repeat walk_at "r1"))

local macro_rules | `(tactic| walk_at "r2") => `(tactic| with_reducible first | refine i_top (by walk_at "sm") (by assumption) (by assumption) ?_ | refine i_bot (by walk_at "sm") (by assumption) (by assumption) ?_ | refine i_mkO ?_)
def top (i : Nat) : Stmt := PySem.Challenge.pw_onethrow_k62_shares_dealt.main.body.getD i (.Pass ⟨0, 0, 0, 0⟩)
def spShown : Sp := fun vs H Q _ => vs.length = 1 ∧ ∃ n : Int, vs = [.int n] ∧ ZR.Sz 1000 n ∧ ∀ y : Str, y.length ≤ 2000 → Q (.str y) H
def GInt : V → Hp → Prop := fun v _ => ∃ n : Int, v = .int n ∧ ZR.Sz 1000 n
abbrev s__shown : Stmt := top 3
theorem sc__shown : FnScope ["n"] ["n"] (defScope s__shown) := ⟨rfl, rfl, rfl, by decide +kernel, rfl, by decide +kernel, by decide +kernel⟩
theorem ok__shown {P : Program} {w : World} {K : PySem.W.Frag} {mg : Str → Option Value} {base : Heap} {f : Addr} {fd : FuncData} (F : L2.Fun K "_shown" "_shown" s__shown f fd)
    (C_b_int : mg "int" = none)
    (C_b_isinstance : mg "isinstance" = none)
    (C_b_str : mg "str" = none) :
    FnOk P w K mg base (L2.CX P w) 1 f fd ["n"] spShown := by
  refine fnOk_mk F sc__shown (fun vs H Q E h => h.1) (fun cdv A outer s H vs Q E hr h => ?_)
  obtain ⟨_, n, rfl, hz, k⟩ := h
  refine ⟨_, pss_cons (ps_if (PW.pt (pw_and (pt_val (pe_callB call_isi (by rfl) C_b_isinstance (by decide +kernel) (pa_cons (pv 0) (pa_cons ((pe_bltn (v := .ty "int") rfl C_b_int (by decide +kernel) rfl)) pa_nil)))) (pw_and1 (pt_cmpR op_gt (pe_bits (pv 0)) pe_int (nomark _))))) (pss_one (ps_ret pe_str)) (pss_nil))
    (pss_one (ps_ret (pe_callTy call_str_int (by rfl) C_b_str (by decide +kernel) (pa_cons (pv 0) pa_nil)))), ?_⟩
  try dsimp only [cxOf]
  walk_at "rd"
  refine i_isiT (tyInt n) (b := true) (kit_ty (by decide +kernel)) ?_
  walk_at "rd"
  refine i_dec (fun h => absurd h (bits_small hz)) fun _ => ?_
  walk_at "rd"
  exact ⟨n, rfl, PySem.Flt.log2_lt_of (by decide) (hz.mono (by decide)), k _ (Nat.le_trans (text_small (hz.mono (by decide))) (by decide))⟩
abbrev s_BadNumber___init__ : Stmt := inClass (top 5) 0
theorem sc_BadNumber___init__ : FnScope ["self", "n"] ["self", "n"] (defScope s_BadNumber___init__) := ⟨rfl, rfl, rfl, by decide +kernel, rfl, by decide +kernel, by decide +kernel⟩
theorem ok_BadNumber___init__ {P : Program} {w : World} {K : PySem.W.Frag} {mg : Str → Option Value} {base : Heap} {CB : Addr} {f : Addr} {fd : FuncData} (F : L2.Fun K "__init__" "BadNumber.__init__" s_BadNumber___init__ f fd)
    (C_f_shown : Cal P w K mg base "_shown" 1 spShown)
    (C_ox_BadNumber : OexC K CB)
    (C_t_ThrowError : CalT K mg "ThrowError")
    (C_xn_BadNumber_n : PySem.W.findIn K (.ref CB) "n" = some none) :
    FnOk P w K mg base (L2.CX P w) 2 f fd ["self", "n"] (spX1 K CB "n" GInt) := by
  refine fnOk_mk F sc_BadNumber___init__ (fun vs H Q E h => h.1) (fun cdv A outer s H vs Q E hr h => ?_)
  obtain ⟨_, a, v, rfl, ha, g, k⟩ := h
  obtain ⟨n, rfl, hz⟩ := g
  refine ⟨_, pss_cons (ps_expr (z_tinit (by rfl) C_t_ThrowError (pa_cons (pv 0) (pa_cons (pe_joined (PJ.cons pe_str (PJ.cons (pe_fmt (z_callC C_f_shown hr passN (pa_cons (pv 1) pa_nil))) PJ.nil))) pa_nil))))
    (pss_one (ps_ost (pv 0) (pv 1))), ?_⟩
  try dsimp only [cxOf]
  walk_at "rd"
  refine i_js1 (by decide +kernel) ?_
  walk_at "rd"
  refine ⟨rfl, n, rfl, hz, fun y hy => ?_⟩
  refine i_fmtS (Nat.le_trans hy (by decide)) ?_
  refine i_js1 ?_ ?_
  · rw [Str.length_append, Str.length_append]
    have e : (Str.ofString "bad number: ").length = 12 := by decide +kernel
    have e0 : Str.empty.length = 0 := by decide +kernel
    rw [e, e0, sizeLine_eq]
    omega
  walk_at "rd"
  refine i_tve1 C_ox_BadNumber ha (by show 1 ≤ 1000; decide) ?_
  walk_at "rd"
  refine i_ost1 C_ox_BadNumber C_xn_BadNumber_n ha fun dx hd hn => ?_
  exact k dx H hd hn (Same.refl _) hd
abbrev s_Ratio___init__ : Stmt := inClass (top 15) 0
theorem sc_Ratio___init__ : FnScope ["self", "top", "bottom", "divisor"] ["self", "top", "bottom"] (defScope s_Ratio___init__) := ⟨rfl, rfl, rfl, by decide +kernel, rfl, by decide +kernel, by decide +kernel⟩
theorem ok_Ratio___init__ {P : Program} {w : World} {K : PySem.W.Frag} {mg : Str → Option Value} {base : Heap} {CB CR : Addr} {f : Addr} {fd : FuncData} (F : L2.Fun K "__init__" "Ratio.__init__" s_Ratio___init__ f fd)
    (C_c_Ratio : ClO K CR)
    (C_m_gcd : mg "gcd" = some (.builtin "math.gcd"))
    (C_na_Ratio_bottom : NoAttr K CR "bottom")
    (C_na_Ratio_top : NoAttr K CR "top")
    (C_x_BadNumber : CalX P w K mg base "BadNumber" CB 2 ["self", "n"] (spX1 K CB "n" GInt)) :
    FnOk P w K mg base (L2.CX P w) 4 f fd ["self", "top", "bottom"] (spRInit CR CB) := by
  refine fnOk_mk F sc_Ratio___init__ (fun vs H Q E h => h.1) (fun cdv A outer s H vs Q E hr h => ?_)
  obtain ⟨_, a, t, b, rfl, ⟨dx, ha⟩, hz, h0, h1⟩ := h
  have tail : ∀ p : Int, p ≠ 0 → p.natAbs.log2 < 9000 → p = ZR.sg t b → b ≠ 0 → tSeq (sFld K (tVar 0) (tOp (rI CDivZ fun i j => V.int (i.fdiv j)) (tVar 1) (tVar 3)) "top") (sFld K (tVar 0) (tOp (rI CDivZ fun i j => V.int (i.fdiv j)) (tVar 2) (tVar 3)) "bottom")
      { nx := fun x H' => Q V.non H', rt := Q } [some (V.ref a), some (V.int t), some (V.int b), some (V.int p)] H := by
    intro p p0 pz e hb
    have cd : CDivZ t p := ⟨p0, pz⟩
    have cd2 : CDivZ b p := ⟨p0, pz⟩
    walk_at "rd"
    refine i_put1 ha C_c_Ratio.toCls C_na_Ratio_top (by show 0 < 100; decide) (rf_put1 _) fun H2 e2 s2 => ?_
    walk_at "rd"
    refine i_put1 e2 C_c_Ratio.toCls C_na_Ratio_bottom (by show 1 < 100; decide) (rf_put2 _ _) fun H3 e3 s3 => ?_
    subst e
    rw [ZR.norm_num t b hb, ZR.norm_den t b hb] at e3
    exact h1 hb H3 ⟨dx, e3⟩ fun x hx => (s3 x hx).trans (s2 x hx)
  refine ⟨_, pss_cons (ps_if (pt_cmpR op_eq (pv 2) pe_int (nomark _)) (pss_one (ps_raise rfl (takes_of rfl rfl rfl rfl) (z_mkX C_x_BadNumber hr (pa_cons pe_int pa_nil)))) (pss_nil))
    (pss_cons (ps_set (i := 3) sc_Ratio___init__.nd rfl (Or.inl rfl) (pe_callBfun cr_gcd (by rfl) C_m_gcd (pa_cons (pv 1) (pa_cons (pv 2) pa_nil))))
    (pss_cons (ps_if (pt_cmpR op_lt (pv 2) pe_int (nomark _)) (pss_one (ps_set (i := 3) sc_Ratio___init__.nd rfl (Or.inl rfl) (pe_un un_neg (pv 3)))) (pss_nil))
    (pss_cons (ps_fld (pv 0) (pe_op op_fdivZ (pv 1) (pv 3)) rfl)
    (pss_one (ps_fld (pv 0) (pe_op op_fdivZ (pv 2) (pv 3)) rfl))))), ?_⟩
  try dsimp only [cxOf]
  walk_at "rd"
  refine i_dec (fun e => ?_) (fun e => ?_)
  · walk_at "rd"
    exact i_mkX1 (fun H' s => ⟨0, rfl, ZR.sz0⟩) fun d H' hd s e' => h0 e d H' s e'
  · walk_at "rd"
    have hb := (or_iff_right e).mp hz
    have gz : ((Nat.gcd t.natAbs b.natAbs : Nat) : Int).natAbs.log2 < 9000 := PySem.Flt.log2_lt_of (by decide) (show Nat.gcd t.natAbs b.natAbs < 2 ^ 9000 from Nat.lt_of_le_of_lt (Nat.gcd_le_right t.natAbs (show 0 < b.natAbs by omega)) (ZR.Sz.mono hb (by decide)))
    have g0 := ZR.gcd_ne t e
    refine i_dec (fun e1 => ?_) (fun e1 => ?_)
    · iterate 5 walk_at "r1"
      refine tail _ (by omega) (by rw [Int.natAbs_neg]; exact gz) (by unfold ZR.sg; rw [if_pos e1]) e
    · refine tail _ g0 gz (by unfold ZR.sg; rw [if_neg e1]) e
abbrev s_Ratio_whole : Stmt := inClass (top 15) 1
theorem sc_Ratio_whole : FnScope ["cls", "n"] ["cls", "n"] (defScope s_Ratio_whole) := ⟨rfl, rfl, rfl, by decide +kernel, rfl, by decide +kernel, by decide +kernel⟩
theorem ok_Ratio_whole {P : Program} {w : World} {K : PySem.W.Frag} {mg : Str → Option Value} {base : Heap} {CB CR : Addr} {f : Addr} {fd : FuncData} (F : L2.Fun K "whole" "Ratio.whole" s_Ratio_whole f fd)
    (C_i_Ratio : CalI P w K mg base "Ratio" CR 4 (spRInit CR CB)) :
    FnOk P w K mg base (L2.CX P w) 6 f fd ["cls", "n"] (spRWhole CR) := by
  refine fnOk_mk F sc_Ratio_whole (fun vs H Q E h => h.1) (fun cdv A outer s H vs Q E hr h => ?_)
  obtain ⟨_, n, rfl, k⟩ := h
  refine ⟨_, pss_one (ps_ret (z_makeL (i := 0) C_i_Ratio hr passN (pa_cons (pv 1) (pa_cons pe_int pa_nil)))), ?_⟩
  try dsimp only [cxOf]
  walk_at "rd"
  refine ⟨rfl, ?_⟩
  walk_at "rd"
  refine i_newR (by decide) (ZR.sz1 (by decide)) fun p H' hp s hr => k p H' hp s ?_
  have e : (n : Rat) / ((1 : Int) : Rat) = (n : Rat) := by
    have : ((1 : Int) : Rat) = 1 := rfl
    rw [this]
    grind
  rw [e] at hr
  exact hr
abbrev s_Ratio_under : Stmt := inClass (top 15) 4
theorem sc_Ratio_under : FnScope ["self", "other"] ["self", "other"] (defScope s_Ratio_under) := ⟨rfl, rfl, rfl, by decide +kernel, rfl, by decide +kernel, by decide +kernel⟩
theorem ok_Ratio_under {P : Program} {w : World} {K : PySem.W.Frag} {mg : Str → Option Value} {base : Heap} {CR : Addr} {f : Addr} {fd : FuncData} (F : L2.Fun K "under" "Ratio.under" s_Ratio_under f fd)
    (C_c_Ratio : ClO K CR)
    (C_na_Ratio_bottom : NoAttr K CR "bottom")
    (C_na_Ratio_top : NoAttr K CR "top") :
    FnOk P w K mg base (L2.CX P w) 1 f fd ["self", "other"] (spRUnder CR) := by
  refine fnOk_mk F sc_Ratio_under (fun vs H Q E h => h.1) (fun cdv A outer s H vs Q E hr h => ?_)
  obtain ⟨_, a, b, p, q, rfl, ha, hb, bp, bq, k⟩ := h
  refine ⟨_, pss_one (ps_ret (pe_cmpR op_lt (pe_op op_mulW (pe_fld (pv 0) rfl) (pe_fld (pv 1) rfl)) (pe_op op_mulW (pe_fld (pv 1) rfl) (pe_fld (pv 0) rfl)) (nomark _))), ?_⟩
  try dsimp only [cxOf]
  walk_at "rd"
  have e : decide (p.num * (q.den : Int) < q.num * (p.den : Int)) = decide (p < q) := decide_eq_decide.mpr (ZR.lt_nd p q)
  rw [e]
  exact k H (Same.refl _)
abbrev s_Ratio___add__ : Stmt := inClass (top 15) 5
theorem sc_Ratio___add__ : FnScope ["self", "other"] ["self", "other"] (defScope s_Ratio___add__) := ⟨rfl, rfl, rfl, by decide +kernel, rfl, by decide +kernel, by decide +kernel⟩
theorem ok_Ratio___add__ {P : Program} {w : World} {K : PySem.W.Frag} {mg : Str → Option Value} {base : Heap} {CB CR : Addr} {f : Addr} {fd : FuncData} (F : L2.Fun K "__add__" "Ratio.__add__" s_Ratio___add__ f fd)
    (C_c_Ratio : ClO K CR)
    (C_i_Ratio : CalI P w K mg base "Ratio" CR 4 (spRInit CR CB))
    (C_na_Ratio_bottom : NoAttr K CR "bottom")
    (C_na_Ratio_top : NoAttr K CR "top") :
    FnOk P w K mg base (L2.CX P w) 6 f fd ["self", "other"] (spR2 CR (· + ·)) := by
  refine fnOk_mk F sc_Ratio___add__ (fun vs H Q E h => h.1) (fun cdv A outer s H vs Q E hr h => ?_)
  obtain ⟨_, a, b, p, q, rfl, ha, hb, bp, bq, k⟩ := h
  refine ⟨_, pss_one (ps_ret (z_makeC C_i_Ratio hr passN (pa_cons (pe_op op_add (pe_op op_mulW (pe_fld (pv 0) rfl) (pe_fld (pv 1) rfl)) (pe_op op_mulW (pe_fld (pv 1) rfl) (pe_fld (pv 0) rfl))) (pa_cons (pe_op op_mulW (pe_fld (pv 0) rfl) (pe_fld (pv 1) rfl)) pa_nil)))), ?_⟩
  try dsimp only [cxOf]
  walk_at "rd"
  refine i_newR (Int.mul_ne_zero (ZR.den_ne p) (ZR.den_ne q)) ((bp.d.mul bq.d).mono (by decide)) fun c H' hc s hr => k c H' hc s ?_
  show IsR CR H' c (p + q)
  rw [← ZR.r_add]
  exact hr
abbrev s_Ratio___sub__ : Stmt := inClass (top 15) 6
theorem sc_Ratio___sub__ : FnScope ["self", "other"] ["self", "other"] (defScope s_Ratio___sub__) := ⟨rfl, rfl, rfl, by decide +kernel, rfl, by decide +kernel, by decide +kernel⟩
theorem ok_Ratio___sub__ {P : Program} {w : World} {K : PySem.W.Frag} {mg : Str → Option Value} {base : Heap} {CB CR : Addr} {f : Addr} {fd : FuncData} (F : L2.Fun K "__sub__" "Ratio.__sub__" s_Ratio___sub__ f fd)
    (C_c_Ratio : ClO K CR)
    (C_i_Ratio : CalI P w K mg base "Ratio" CR 4 (spRInit CR CB))
    (C_na_Ratio_bottom : NoAttr K CR "bottom")
    (C_na_Ratio_top : NoAttr K CR "top") :
    FnOk P w K mg base (L2.CX P w) 6 f fd ["self", "other"] (spR2 CR (· - ·)) := by
  refine fnOk_mk F sc_Ratio___sub__ (fun vs H Q E h => h.1) (fun cdv A outer s H vs Q E hr h => ?_)
  obtain ⟨_, a, b, p, q, rfl, ha, hb, bp, bq, k⟩ := h
  refine ⟨_, pss_one (ps_ret (z_makeC C_i_Ratio hr passN (pa_cons (pe_op op_sub (pe_op op_mulW (pe_fld (pv 0) rfl) (pe_fld (pv 1) rfl)) (pe_op op_mulW (pe_fld (pv 1) rfl) (pe_fld (pv 0) rfl))) (pa_cons (pe_op op_mulW (pe_fld (pv 0) rfl) (pe_fld (pv 1) rfl)) pa_nil)))), ?_⟩
  try dsimp only [cxOf]
  walk_at "rd"
  refine i_newR (Int.mul_ne_zero (ZR.den_ne p) (ZR.den_ne q)) ((bp.d.mul bq.d).mono (by decide)) fun c H' hc s hr => k c H' hc s ?_
  show IsR CR H' c (p - q)
  rw [← ZR.r_sub]
  exact hr
abbrev s_Ratio___eq__ : Stmt := inClass (top 15) 9
theorem sc_Ratio___eq__ : FnScope ["self", "other"] ["self", "other"] (defScope s_Ratio___eq__) := ⟨rfl, rfl, rfl, by decide +kernel, rfl, by decide +kernel, by decide +kernel⟩
theorem ok_Ratio___eq__ {P : Program} {w : World} {K : PySem.W.Frag} {mg : Str → Option Value} {base : Heap} {CR : Addr} {f : Addr} {fd : FuncData} (F : L2.Fun K "__eq__" "Ratio.__eq__" s_Ratio___eq__ f fd)
    (C_b_isinstance : mg "isinstance" = none)
    (C_c_Ratio : ClO K CR)
    (C_gRatio : mg "Ratio" = some (.ref CR))
    (C_ki_Ratio_Ratio : PySem.W.kitOne K (.ref CR) (.ref CR) = some true)
    (C_na_Ratio_bottom : NoAttr K CR "bottom")
    (C_na_Ratio_top : NoAttr K CR "top") :
    FnOk P w K mg base (L2.CX P w) 1 f fd ["self", "other"] (spREq K CR) := by
  refine fnOk_mk F sc_Ratio___eq__ (fun vs H Q E h => h.1) (fun cdv A outer s H vs Q E hr h => ?_)
  obtain ⟨_, a, p, y, rfl, ha, h⟩ := h
  refine ⟨_, pss_one (ps_ret (pe_and (pe_callB call_isi (by rfl) C_b_isinstance (by decide +kernel) (pa_cons (pv 1) (pa_cons ((pe_glob (v := .ref CR) rfl C_gRatio rfl)) pa_nil))) (pe_and (pe_cmpR op_eq (pe_fld (pv 0) rfl) (pe_fld (pv 1) rfl) (nomark _)) (pe_one (pe_cmpR op_eq (pe_fld (pv 0) rfl) (pe_fld (pv 1) rfl) (nomark _)))))), ?_⟩
  try dsimp only [cxOf]
  walk_at "rd"
  rcases h with ⟨b, q, rfl, hb, k⟩ | ⟨t, ty, hk, k⟩
  · obtain ⟨dy, e2⟩ := id hb
    refine i_isiO (C_c_Ratio.ty e2) (b := true) C_ki_Ratio_Ratio ?_
    walk_at "rd"
    have e : decide (p.num = q.num ∧ (p.den : Int) = (q.den : Int)) = decide (p = q) := decide_eq_decide.mpr (ZR.eq_nd p q)
    have k1 := k H (Same.refl _)
    rw [← e] at k1
    refine i_dec (fun n1 => ?_) (fun n1 => ?_)
    · walk_at "rd"
      simpa [n1] using k1
    · simpa [n1] using k1
  · refine i_isiO ty hk ?_
    walk_at "rd"
    exact k H (Same.refl _)
abbrev s_Ratio___bool__ : Stmt := inClass (top 15) 10
theorem sc_Ratio___bool__ : FnScope ["self"] ["self"] (defScope s_Ratio___bool__) := ⟨rfl, rfl, rfl, by decide +kernel, rfl, by decide +kernel, by decide +kernel⟩
theorem ok_Ratio___bool__ {P : Program} {w : World} {K : PySem.W.Frag} {mg : Str → Option Value} {base : Heap} {CR : Addr} {f : Addr} {fd : FuncData} (F : L2.Fun K "__bool__" "Ratio.__bool__" s_Ratio___bool__ f fd)
    (C_b_bool : mg "bool" = none)
    (C_c_Ratio : ClO K CR)
    (C_na_Ratio_bottom : NoAttr K CR "bottom")
    (C_na_Ratio_top : NoAttr K CR "top") :
    FnOk P w K mg base (L2.CX P w) 1 f fd ["self"] (spRBool CR) := by
  refine fnOk_mk F sc_Ratio___bool__ (fun vs H Q E h => h.1) (fun cdv A outer s H vs Q E hr h => ?_)
  obtain ⟨_, a, p, rfl, ha, k⟩ := h
  refine ⟨_, pss_one (ps_ret (pe_callTy call_bool1 (by rfl) C_b_bool (by decide +kernel) (pa_cons (pe_fld (pv 0) rfl) pa_nil))), ?_⟩
  try dsimp only [cxOf]
  walk_at "rd"
  refine .inl ⟨_, rfl, ?_⟩
  have e : (p.num != 0) = decide (p ≠ 0) := by
    by_cases z : p = 0
    · subst z; rfl
    · have := ZR.num_ne z
      simp [this, z]
  rw [e]
  exact k H (Same.refl _)
open TL ZS in
def spDec : Sp := fun vs H Q _ => vs.length = 1 ∧ ∃ n : Int, vs = [.int n] ∧ n.natAbs < 10 ^ 64 ∧ ∀ H', Same H H' → Q (.str (ZS.T n)) H'
def strR (p : Rat) : Str := if p.den = 1 then ZS.T p.num else ZS.T p.num ++ ZS.slash ++ ZS.T (p.den : Int)
def spRStr (CR : Addr) : Sp := fun vs H Q _ => vs.length = 1 ∧ ∃ (a : Addr) (p : Rat), vs = [.ref a] ∧ IsR CR H a p ∧ p.num.natAbs < 10 ^ 30 ∧ p.den < 10 ^ 30 ∧ ∀ H', Same H H' → Q (.str (strR p)) H'
section
variable {CR CX : Addr} {H : Hp} {Q : VK} {E : XK} {z : Str}
theorem i_decT {n : Int} (hz : n.natAbs < 10 ^ 64) (h : ∀ H', Same H H' → Q (.str (ZS.T n)) H') : spDec [.int n] H Q E := ⟨rfl, n, rfl, hz, h⟩
end
abbrev s_decimal : Stmt := top 13
theorem sc_decimal : FnScope ["n", "blocks", "rest", "block", "text"] ["n"] (defScope s_decimal) := ⟨rfl, rfl, rfl, by decide +kernel, rfl, by decide +kernel, by decide +kernel⟩
theorem ok_decimal {P : Program} {w : World} {K : PySem.W.Frag} {mg : Str → Option Value} {base : Heap} {f : Addr} {fd : FuncData} (F : L2.Fun K "decimal" "decimal" s_decimal f fd)
    (C_b_abs : mg "abs" = none)
    (C_b_divmod : mg "divmod" = none)
    (C_b_str : mg "str" = none) :
    FnOk P w K mg base (L2.CX P w) 1 f fd ["n"] spDec := by
  refine fnOk_mk F sc_decimal (fun vs H Q E h => h.1) (fun cdv A outer s H vs Q E hr h => ?_)
  obtain ⟨_, n, rfl, hz, k⟩ := h
  refine ⟨_, pss_cons (ps_set (i := 1) sc_decimal.nd rfl (Or.inl rfl) (pe_lst pa_nil))
    (pss_cons (ps_set (i := 2) sc_decimal.nd rfl (Or.inl rfl) (pe_callB call_abs (by rfl) C_b_abs (by decide +kernel) (pa_cons (pv 0) pa_nil)))
    (pss_cons (ps_while (passes_of rfl) (pt_cmpR op_ge (pv 2) (pe_op op_pow pe_int pe_int) (nomark _)) (pss_cons (ps_asg (pe_callB call_divmodW (by rfl) C_b_divmod (by decide +kernel) (pa_cons (pv 2) (pa_cons (pe_op op_pow pe_int pe_int) pa_nil))) (k_tup (K := K) (n := 2) rfl rfl (pgs_cons (pg_name (i := 2) sc_decimal.nd rfl (Or.inl rfl)) (pgs_cons (pg_name (i := 3) sc_decimal.nd rfl (Or.inl rfl)) pgs_nil))))
    (pss_one (ps_expr (pe_bm PySem.F.plainAttrs_list PySem.F.slot_list_append PySem.F.type_list_append mt_append (pv 1) (pa_cons (pe_bm PySem.F.plainAttrs_str PySem.F.slot_str_zfill PySem.F.type_str_zfill mt_zfill (pe_callTy call_str_int (by rfl) C_b_str (by decide +kernel) (pa_cons (pv 3) pa_nil)) (pa_cons pe_int pa_nil)) pa_nil))))))
    (pss_cons (ps_expr (pe_bm PySem.F.plainAttrs_list PySem.F.slot_list_append PySem.F.type_list_append mt_append (pv 1) (pa_cons (pe_callTy call_str_int (by rfl) C_b_str (by decide +kernel) (pa_cons (pv 2) pa_nil)) pa_nil)))
    (pss_cons (ps_set (i := 4) sc_decimal.nd rfl (Or.inl rfl) (pe_bm PySem.F.plainAttrs_str PySem.F.slot_str_join PySem.F.type_str_join mt_join pe_str (pa_cons (pe_revL (pv 1)) pa_nil)))
    (pss_one (ps_ret (pe_ifExp (pt_cmpR op_lt (pv 0) pe_int (nomark _)) (pe_joined (PJ.cons pe_str (PJ.cons (pe_fmt (pv 4)) PJ.nil))) (pv 4)))))))), ?_⟩
  try dsimp only [cxOf]
  walk_at "rd"
  refine i_lst1 (Nat.le_of_ble_eq_true rfl) fun p H1 hp s1 e1 ho1 => ?_
  walk_at "rd"
  refine ⟨n, rfl, ?_⟩
  walk_at "rd"
  have eabs : (if n < 0 then -n else n) = ((n.natAbs : Nat) : Int) := by split <;> omega
  rw [eabs]
  refine while_by (fun σ H' => σ = [some (.int n), some (.ref p), some (.int ((n.natAbs : Nat) : Int)), none, none] ∧ H' = H1) (fun _ _ => 0) ⟨rfl, rfl⟩ ?_ ?_
  · rintro σ H2 ⟨rfl, rfl⟩
    walk_at "rd"
    rw [decide_eq_false (show ¬ (10 : Int) ^ Int.toNat 64 ≤ ((n.natAbs : Nat) : Int) by
      have : (10 : Int) ^ Int.toNat 64 = ((10 ^ 64 : Nat) : Int) := by decide +kernel
      rw [this]
      omega)]
    walk_at "rd"
    refine ⟨tyL e1, ?_⟩
    walk_at "rd"
    refine ⟨_, rfl, ?_, ?_⟩
    · exact PySem.Flt.log2_lt_of (by decide) (show ((n.natAbs : Nat) : Int).natAbs < 2 ^ 1920 from Nat.lt_of_lt_of_le hz (by decide +kernel))
    walk_at "rd"
    refine i_app e1 (by decide) fun H3 e3 ho3 => ?_
    walk_at "rd"
    refine ⟨rfl, ?_⟩
    walk_at "rd"
    refine i_revL1 (xs := [V.str (ZS.T ((n.natAbs : Nat) : Int))]) (SqL.of e3) fun q H4 hq s4 e4 ho4 => ?_
    walk_at "rd"
    have hl : (ZS.T ((n.natAbs : Nat) : Int)).length ≤ 64 := by
      rw [TL.len_tl, ZS.tl_pos]
      exact TL.numL_len (by decide) hz
    refine ⟨Str.ofString "", q, [ZS.T ((n.natAbs : Nat) : Int)], rfl, rfl, .inl (SqL.of e4), ?_, ?_⟩
    · show ((ZS.T ((n.natAbs : Nat) : Int)).length + 0) + 1 * _ ≤ _
      have : (Str.ofString "").length = 0 := by decide +kernel
      rw [this]
      omega
    rw [ZS.join1]
    walk_at "rb"
    have s24 : Same H H4 := by
      intro b o e
      have nb : b ≠ p := ne_of_none e hp
      exact s4 _ _ ((ho3 b nb).trans (s1 _ _ e))
    refine i_dec (fun hn => ?_) (fun hn => ?_)
    · walk_at "rd"
      refine i_js1 (by decide +kernel) ?_
      walk_at "rd"
      refine i_fmtS (Nat.le_trans hl (by decide)) ?_
      refine i_js1 ?_ ?_
      · rw [Str.length_append, Str.length_append]
        have e : (Str.ofString "-").length = 1 := by decide +kernel
        have e0 : Str.empty.length = 0 := by decide +kernel
        rw [e, e0, sizeLine_eq]
        omega
      walk_at "rd"
      have en : ((n.natAbs : Nat) : Int) = -n := by omega
      have ee : Str.empty ++ Str.ofString "-" ++ ZS.T ((n.natAbs : Nat) : Int) = ZS.T n := by
        rw [en, ← ZS.T_neg hn]
        refine TL.ext_tl ?_
        rw [TL.tl_append, TL.tl_append, TL.tl_append]
        rfl
      rw [ee]
      exact k H4 s24
    · walk_at "rd"
      have en : ((n.natAbs : Nat) : Int) = n := by omega
      rw [en]
      exact k H4 s24
  · intro σ H Q Q' kk h
    obtain ⟨y, e, q⟩ := h
    refine ⟨y, e, ?_⟩
    obtain ⟨i, j, ei, ej, cc, q⟩ := q
    refine ⟨i, j, ei, ej, cc, ?_⟩
    obtain ⟨i, j, ei, ej, q⟩ := q
    refine ⟨i, j, ei, ej, ?_⟩
    obtain ⟨c, ec, q⟩ := q
    exact ⟨c, ec, kk _ _ q⟩
abbrev s_Ratio___str__ : Stmt := inClass (top 15) 11
theorem sc_Ratio___str__ : FnScope ["self"] ["self"] (defScope s_Ratio___str__) := ⟨rfl, rfl, rfl, by decide +kernel, rfl, by decide +kernel, by decide +kernel⟩
theorem ok_Ratio___str__ {P : Program} {w : World} {K : PySem.W.Frag} {mg : Str → Option Value} {base : Heap} {CR : Addr} {f : Addr} {fd : FuncData} (F : L2.Fun K "__str__" "Ratio.__str__" s_Ratio___str__ f fd)
    (C_c_Ratio : ClO K CR)
    (C_f_decimal : Cal P w K mg base "decimal" 1 spDec)
    (C_na_Ratio_bottom : NoAttr K CR "bottom")
    (C_na_Ratio_top : NoAttr K CR "top") :
    FnOk P w K mg base (L2.CX P w) 2 f fd ["self"] (spRStr CR) := by
  refine fnOk_mk F sc_Ratio___str__ (fun vs H Q E h => h.1) (fun cdv A outer s H vs Q E hr h => ?_)
  obtain ⟨_, a, p, rfl, ha, hn, hd, k⟩ := h
  have b64 : ∀ {m : Nat}, m < 10 ^ 30 → m < 10 ^ 64 := fun h => Nat.lt_of_lt_of_le h (by decide +kernel)
  have hdi : ((p.den : Int)).natAbs < 10 ^ 30 := hd
  refine ⟨_, pss_cons (ps_if (pt_cmpR op_eq (pe_fld (pv 0) rfl) pe_int (nomark _)) (pss_one (ps_ret (pe_joined1 (pe_fmt (z_callC C_f_decimal hr passN (pa_cons (pe_fld (pv 0) rfl) pa_nil)))))) (pss_nil))
    (pss_one (ps_ret (pe_joined (PJ.cons (pe_fmt (z_callC C_f_decimal hr passN (pa_cons (pe_fld (pv 0) rfl) pa_nil))) (PJ.cons pe_str (PJ.cons (pe_fmt (z_callC C_f_decimal hr passN (pa_cons (pe_fld (pv 0) rfl) pa_nil))) PJ.nil)))))), ?_⟩
  try dsimp only [cxOf]
  walk_at "rd"
  refine i_dec (fun e => ?_) (fun e => ?_)
  · walk_at "rd"
    refine i_decT (b64 hn) fun H1 s1 => ?_
    refine i_fmtS (Nat.le_trans (ZS.T_len hn) (by decide)) ?_
    have e1 : strR p = ZS.T p.num := by
      unfold strR
      rw [if_pos (by omega)]
    rw [← e1]
    exact k H1 s1
  · walk_at "rd"
    refine i_decT (b64 hn) fun H1 s1 => ?_
    refine i_fmtS (Nat.le_trans (ZS.T_len hn) (by decide)) ?_
    have h1 := ZS.T_len hn
    have h2 := ZS.T_len hdi
    have e0 : Str.empty.length = 0 := by decide +kernel
    have es : (Str.ofString "/").length = 1 := by decide +kernel
    refine i_js1 ?_ ?_
    · rw [Str.length_append, e0, sizeLine_eq]
      omega
    walk_at "rd"
    refine i_js1 ?_ ?_
    · rw [Str.length_append, Str.length_append, e0, es, sizeLine_eq]
      omega
    walk_at "rd"
    refine i_decT (b64 hdi) fun H2 s2 => ?_
    refine i_fmtS (Nat.le_trans h2 (by decide)) ?_
    refine i_js1 ?_ ?_
    · rw [Str.length_append, Str.length_append, Str.length_append, e0, es, sizeLine_eq]
      omega
    walk_at "rd"
    have e1 : strR p = Str.empty ++ ZS.T p.num ++ Str.ofString "/" ++ ZS.T (p.den : Int) := by
      unfold strR
      rw [if_neg (by omega)]
      refine TL.ext_tl ?_
      rw [TL.tl_append, TL.tl_append, TL.tl_append, TL.tl_append, TL.tl_append]
      rfl
    rw [← e1]
    exact k H2 (s1.trans s2)
def spShownR (CR : Addr) : Sp := fun vs H Q _ => vs.length = 1 ∧ ∃ (a : Addr) (p : Rat), vs = [.ref a] ∧ IsR CR H a p ∧ p.num.natAbs < 10 ^ 30 ∧ p.den < 10 ^ 30 ∧ ∀ (y : Str) H', Same H H' → y.length ≤ 200 → Q (.str y) H'
def GRat (CR : Addr) : V → Hp → Prop := fun v H => ∃ (a : Addr) (p : Rat), v = .ref a ∧ IsR CR H a p ∧ p.num.natAbs < 10 ^ 30 ∧ p.den < 10 ^ 30
theorem strR_len {p : Rat} (h : p.num.natAbs < 10 ^ 30) (g : p.den < 10 ^ 30) : (strR p).length ≤ 200 := by
  have h1 := ZS.T_len h
  have h2 := ZS.T_len (n := (p.den : Int)) (by exact g)
  have e : ZS.slash.length = 1 := by decide +kernel
  unfold strR
  split
  · omega
  · rw [Str.length_append, Str.length_append, e]
    omega
theorem ok__shown__R {P : Program} {w : World} {K : PySem.W.Frag} {mg : Str → Option Value} {base : Heap} {CR : Addr} {f : Addr} {fd : FuncData} (F : L2.Fun K "_shown" "_shown" s__shown f fd)
    (C_b_int : mg "int" = none)
    (C_b_isinstance : mg "isinstance" = none)
    (C_b_str : mg "str" = none)
    (C_c_Ratio : ClO K CR)
    (C_ki_Ratio_int : PySem.W.kitOne K (.ref CR) (.type "int") = some false)
    (C_na_Ratio_bottom : NoAttr K CR "bottom")
    (C_na_Ratio_top : NoAttr K CR "top")
    (C_o_Ratio_str : CalO P w K mg base CR "__str__" 2 (spRStr CR)) :
    FnOk P w K mg base (L2.CX P w) 5 f fd ["n"] (spShownR CR) := by
  refine fnOk_mk F sc__shown (fun vs H Q E h => h.1) (fun cdv A outer s H vs Q E hr h => ?_)
  obtain ⟨_, a, p, rfl, ha, hn, hd, k⟩ := h
  obtain ⟨dx, e0⟩ := id ha
  refine ⟨_, pss_cons (ps_if (PW.pt (pw_and (pt_val (pe_callB call_isi (by rfl) C_b_isinstance (by decide +kernel) (pa_cons (pv 0) (pa_cons ((pe_bltn (v := .ty "int") rfl C_b_int (by decide +kernel) rfl)) pa_nil)))) (pw_and1 (pt_cmpR op_gt (pe_bits (pv 0)) pe_int (nomark _))))) (pss_one (ps_ret pe_str)) (pss_nil))
    (pss_one (ps_ret (pe_callTy (z_strO C_o_Ratio_str hr) (by rfl) C_b_str (by decide +kernel) (pa_cons (pv 0) pa_nil)))), ?_⟩
  try dsimp only [cxOf]
  walk_at "rd"
  refine i_isiT (C_c_Ratio.ty e0) (b := false) C_ki_Ratio_int ?_
  walk_at "rd"
  exact ⟨a, dx, _, rfl, e0, rfl, a, p, rfl, ha, hn, hd, fun H' s => ⟨_, rfl, k _ H' s (strR_len hn hd)⟩⟩
abbrev s_BadShares___init__ : Stmt := inClass (top 7) 0
theorem sc_BadShares___init__ : FnScope ["self", "total"] ["self", "total"] (defScope s_BadShares___init__) := ⟨rfl, rfl, rfl, by decide +kernel, rfl, by decide +kernel, by decide +kernel⟩
theorem ok_BadShares___init__ {P : Program} {w : World} {K : PySem.W.Frag} {mg : Str → Option Value} {base : Heap} {CR CX : Addr} {f : Addr} {fd : FuncData} (F : L2.Fun K "__init__" "BadShares.__init__" s_BadShares___init__ f fd)
    (C_f_shown__R : Cal P w K mg base "_shown" 5 (spShownR CR))
    (C_ox_BadShares : OexC K CX)
    (C_t_ThrowError : CalT K mg "ThrowError")
    (C_xn_BadShares_total : PySem.W.findIn K (.ref CX) "total" = some none) :
    FnOk P w K mg base (L2.CX P w) 6 f fd ["self", "total"] (spX1 K CX "total" (GRat CR)) := by
  refine fnOk_mk F sc_BadShares___init__ (fun vs H Q E h => h.1) (fun cdv A outer s H vs Q E hr h => ?_)
  obtain ⟨_, a, v, rfl, ha, g, k⟩ := h
  obtain ⟨b, p, rfl, hb, hn, hd⟩ := g
  refine ⟨_, pss_cons (ps_expr (z_tinit (by rfl) C_t_ThrowError (pa_cons (pv 0) (pa_cons (pe_joined (PJ.cons pe_str (PJ.cons (pe_fmt (z_callC C_f_shown__R hr passN (pa_cons (pv 1) pa_nil))) PJ.nil))) pa_nil))))
    (pss_one (ps_ost (pv 0) (pv 1))), ?_⟩
  try dsimp only [cxOf]
  walk_at "rd"
  refine i_js1 (by decide +kernel) ?_
  walk_at "rd"
  refine ⟨rfl, b, p, rfl, hb, hn, hd, fun y H1 s1 hy => ?_⟩
  refine i_fmtS (Nat.le_trans hy (by decide)) ?_
  refine i_js1 ?_ ?_
  · rw [Str.length_append, Str.length_append]
    have e : (Str.ofString "bad sum of shares: ").length = 19 := by decide +kernel
    have e0 : Str.empty.length = 0 := by decide +kernel
    rw [e, e0, sizeLine_eq]
    omega
  walk_at "rd"
  refine i_tve1 C_ox_BadShares (s1 _ _ ha) (by show 1 ≤ 1000; decide) ?_
  walk_at "rd"
  refine i_ost1 C_ox_BadShares C_xn_BadShares_total (s1 _ _ ha) fun dx hd' hn' => ?_
  refine k dx H1 ?_ hn' s1 hd'
  cases z : H dx with
  | none => rfl
  | some o => rw [s1 _ _ z] at hd'; cases hd'
def RsAt (CR : Addr) (H : Hp) (ps : List (Addr × Rat)) : Prop := ∀ x ∈ ps, IsR CR H x.1 x.2
def rfs (ps : List (Addr × Rat)) : List V := ps.map fun x => V.ref x.1
def GL {α : Type} (D M : Nat) (L : List (α × Rat)) : Prop := ∀ x ∈ L, 0 < x.2 ∧ ZD.Gd D M x.2
/-- small enough -/
def Sml (D M n : Nat) : Prop := 0 < D ∧ D < 2 ^ 400 ∧ n * M * D < 2 ^ 1000
theorem Sml.bd {D M n m : Nat} {q : Rat} (s : Sml D M n) (h : ZD.Gd D (m * M) q) (hm : m ≤ n) : ZR.Bd 1000 q :=
  h.bd s.1 (Nat.lt_of_lt_of_le s.2.1 (Nat.pow_le_pow_right (by decide) (by decide))) (Nat.lt_of_le_of_lt (Nat.mul_le_mul_right D (Nat.mul_le_mul_right M hm)) s.2.2)
theorem gl_take {α : Type} {D M : Nat} {L : List (α × Rat)} (h : GL D M L) (i : Nat) : GL D M (L.take i) := fun x hx => h x (List.mem_of_mem_take hx)
theorem gl_sm {α : Type} {D M : Nat} {L : List (α × Rat)} (h : GL D M L) : ZD.Gd D (L.length * M) (ZD.sm L) := ZD.sm_gd fun x hx => (h x hx).2
def spTotal (K : PySem.W.Frag) (CR : Addr) : Sp := fun vs H Q _ => vs.length = 1 ∧ ∃ (l : Addr) (ps : List (Addr × Rat)) (D M : Nat), vs = [.ref l] ∧ SqL K H l (rfs ps) ∧ RsAt CR H ps ∧ GL D M ps ∧ Sml D M (ps.length + 1) ∧
  ∀ c H', H c = none → Same H H' → IsR CR H' c (ZD.sm ps) → Q (.ref c) H'
abbrev s_total : Stmt := top 16
theorem sc_total : FnScope ["ratios", "found", "ratio"] ["ratios"] (defScope s_total) := ⟨rfl, rfl, rfl, by decide +kernel, rfl, by decide +kernel, by decide +kernel⟩
theorem ok_total {P : Program} {w : World} {K : PySem.W.Frag} {mg : Str → Option Value} {base : Heap} {CR : Addr} {f : Addr} {fd : FuncData} (F : L2.Fun K "total" "total" s_total f fd)
    (C_gRatio : mg "Ratio" = some (.ref CR))
    (C_k_Ratio_whole : CalK P w K mg base CR "whole" 6 (spRWhole CR))
    (C_o_Ratio_add : CalO P w K mg base CR "__add__" 6 (spR2 CR (· + ·))) :
    FnOk P w K mg base (L2.CX P w) 7 f fd ["ratios"] (spTotal K CR) := by
  refine fnOk_mk F sc_total (fun vs H Q E h => h.1) (fun cdv A outer s H vs Q E hr h => ?_)
  obtain ⟨_, l, ps, D, M, rfl, hl, hr0, hg, hs, k⟩ := h
  refine ⟨_, pss_cons (ps_set (i := 1) sc_total.nd rfl (Or.inl rfl) (z_cmethC (pe_glob (v := .ref CR) rfl C_gRatio rfl) C_k_Ratio_whole hr passN (pa_cons pe_int pa_nil)))
    (pss_cons (ps_for (passes_of rfl) rfl (pi_any (K := K) rfl (pv 0)) (pg_name (i := 2) sc_total.nd rfl (Or.inl rfl)) (pss_one (ps_set (i := 1) sc_total.nd rfl (Or.inl rfl) (pe_op (z_op C_o_Ratio_add hr) (pv 1) (pv 2)))))
    (pss_one (ps_ret (pv 1)))), ?_⟩
  try dsimp only [cxOf]
  walk_at "rd"
  refine ⟨rfl, ?_⟩
  walk_at "rd"
  refine i_whole fun c H1 hc s1 hr1 => ?_
  walk_at "rd"
  refine i_forA (H0 := H) (fun i σ H' => ∃ c v, σ = [some (.ref l), some (.ref c), v] ∧ Same H H' ∧ H c = none ∧ IsR CR H' c (ZD.sm (ps.take i))) (.inl hl)
    ⟨c, none, rfl, s1, hc, hr1⟩ (fun i σ H' => fun ⟨_, _, _, s, _⟩ => s) ?_ ?_
  · rintro i x σ H2 hi ⟨c2, v, rfl, s2, hc2, hr2⟩
    have hlt : i < ps.length := by
      have := (List.getElem?_eq_some_iff.mp hi).1
      unfold rfs at this
      simpa using this
    obtain rfl : x = V.ref ps[i].1 := by
      unfold rfs at hi
      simpa [hlt] using hi.symm
    have hm : ps[i] ∈ ps := List.getElem_mem hlt
    have b1 : ZR.Bd 2000 (ZD.sm (ps.take i)) := (hs.bd (gl_sm (gl_take hg i)) (by rw [List.length_take]; omega)).mono (by decide)
    have b2 : ZR.Bd 2000 ps[i].2 := (hs.bd (m := 1) (by rw [Nat.one_mul]; exact (hg _ hm).2) (by omega)).mono (by decide)
    walk_at "rd"
    refine i_R2 hr2 ((hr0 _ hm).mono s2) b1 b2 fun d H3 hd s3 hr3 => ?_
    walk_at "rd"
    have e : ZD.sm (ps.take (i + 1)) = ZD.sm (ps.take i) + ps[i].2 := by
      rw [List.take_succ_eq_append_getElem hlt, ZD.sm_snoc]
    refine ⟨d, _, rfl, s2.trans s3, s2.free hd, ?_⟩
    rw [e]
    exact hr3
  · rintro σ H2 ⟨c2, v, rfl, s2, hc2, hr2⟩
    walk_at "rd"
    have e : ps.take (rfs ps).length = ps := by
      unfold rfs
      simp
    rw [e] at hr2
    exact k c2 H2 hc2 s2 hr2
/-! the law's helpers -/
def PoolN (H : Hp) (p : Addr) (n : Nat) : Prop := ∃ (c k : Int) (f : Bool), H p = some (.lst [V.int c, V.int k, V.bl f]) ∧ 0 ≤ k ∧ k ≤ n
def spPoolN : Sp := fun vs H Q _ => vs.length = 1 ∧ ∃ c, vs = [.int c] ∧ ∀ p H', H p = none → Same H H' → (∀ b, b ≠ p → H' b = H b) → PoolN H' p 0 → Q (.ref p) H'
def spTakeN : Sp := fun vs H Q _ => vs.length = 2 ∧ ∃ p l n, vs = [.ref p, .int l] ∧ PoolN H p n ∧ n ≤ 1000 ∧ 0 < l ∧ l ≤ 100 ∧ ∀ r H', 0 ≤ r → r < l → (∀ b, b ≠ p → H' b = H b) → PoolN H' p (n + 1) → Q (.int r) H'
abbrev s__law_pool : Stmt := top 21
theorem sc__law_pool : FnScope ["_law_cell_here"] ["_law_cell_here"] (defScope s__law_pool) := ⟨rfl, rfl, rfl, by decide +kernel, rfl, by decide +kernel, by decide +kernel⟩
theorem ok__law_pool {P : Program} {w : World} {K : PySem.W.Frag} {mg : Str → Option Value} {base : Heap} {f : Addr} {fd : FuncData} (F : L2.Fun K "_law_pool" "_law_pool" s__law_pool f fd)
    (C_b_abs : mg "abs" = none) :
    FnOk P w K mg base (L2.CX P w) 1 f fd ["_law_cell_here"] spPoolN := by
  refine fnOk_mk F sc__law_pool (fun vs H Q E h => h.1) (fun cdv A outer s H vs Q E hr h => ?_)
  obtain ⟨_, c, rfl, k⟩ := h
  refine ⟨_, pss_one (ps_ret (pe_lst (pa_cons (pe_callB call_abs (by rfl) C_b_abs (by decide +kernel) (pa_cons (pv 0) pa_nil)) (pa_cons pe_int (pa_cons (pe_cmpR op_ge (pe_callB call_abs (by rfl) C_b_abs (by decide +kernel) (pa_cons (pv 0) pa_nil)) (pe_op op_pow pe_int pe_int) (nomark _)) pa_nil))))), ?_⟩
  try dsimp only [cxOf]
  walk_at "rd"
  refine ⟨c, rfl, ?_⟩
  walk_at "rd"
  refine ⟨c, rfl, ?_⟩
  walk_at "rd"
  refine i_lst1 (Nat.le_of_ble_eq_true rfl) fun p H2 hp s e ho => ?_
  exact k p H2 hp s ho ⟨_, _, _, e, by decide, by decide⟩
abbrev s__law_cell : Stmt := top 20
theorem sc__law_cell : FnScope ["_law_script", "_law_k"] ["_law_script", "_law_k"] (defScope s__law_cell) := ⟨rfl, rfl, rfl, by decide +kernel, rfl, by decide +kernel, by decide +kernel⟩
theorem ok__law_cell {P : Program} {w : World} {K : PySem.W.Frag} {mg : Str → Option Value} {base : Heap} {f : Addr} {fd : FuncData} (F : L2.Fun K "_law_cell" "_law_cell" s__law_cell f fd)
    (C_b_len : mg "len" = none) :
    FnOk P w K mg base (L2.CX P w) 1 f fd ["_law_script", "_law_k"] (spCell K) := by
  refine fnOk_mk F sc__law_cell (fun vs H Q E h => h.1) (fun cdv A outer s H vs Q E hr h => ?_)
  obtain ⟨_, a, ns, i, rfl, hs, k⟩ := h
  refine ⟨_, pss_cons (ps_if (pt_cmpR op_lt (pv 1) (pe_callB (k_len (K := K) rfl) (by rfl) C_b_len (by decide +kernel) (pa_cons (pv 0) pa_nil)) (nomark _)) (pss_one (ps_ret (pe_ix ix_list (pv 0) (pv 1) (fun _ _ => rfl)))) (pss_nil))
    (pss_one (ps_ret pe_int)), ?_⟩
  try dsimp only [cxOf]
  walk_at "rd"
  refine ⟨a, _, rfl, .inl hs, ?_⟩
  walk_at "rd"
  refine i_dec (fun e => ?_) (fun e => ?_)
  · walk_at "rd"
    have hlt : i < ns.length := by
      rw [List.length_map] at e
      omega
    refine i_ixL hs (v := V.int ns[i]) (by simp [hlt]) ?_
    exact k _
  · walk_at "rd"
    exact k 0
abbrev s__law_take : Stmt := top 22
theorem sc__law_take : FnScope ["_law_pool_here", "_law_limit", "_law_digit", "_law_made"] ["_law_pool_here", "_law_limit"] (defScope s__law_take) := ⟨rfl, rfl, rfl, by decide +kernel, rfl, by decide +kernel, by decide +kernel⟩
theorem ok__law_take {P : Program} {w : World} {K : PySem.W.Frag} {mg : Str → Option Value} {base : Heap} {f : Addr} {fd : FuncData} (F : L2.Fun K "_law_take" "_law_take" s__law_take f fd)
    (C_b_int : mg "int" = none) :
    FnOk P w K mg base (L2.CX P w) 1 f fd ["_law_pool_here", "_law_limit"] spTakeN := by
  refine fnOk_mk F sc__law_take (fun vs H Q E h => h.1) (fun cdv A outer s H vs Q E hr h => ?_)
  obtain ⟨_, p, l, n, rfl, ⟨c, k0, fl, hp, kl, ku⟩, hn, h0, hz, k⟩ := h
  have hzl : ZR.Sz 8000 l := ZR.Sz.mono (n := 10) (Nat.lt_of_le_of_lt (show l.natAbs ≤ 100 by omega) (by decide +kernel)) (by decide)
  refine ⟨_, pss_cons (ps_asg (pe_op op_add (pe_ix ix_list (pv 0) pe_int (fun _ _ => rfl)) pe_int) (pg_sub (pv 0) pe_int set_list))
    (pss_cons (ps_if (pt_val (pe_ix ix_list (pv 0) pe_int (fun _ _ => rfl))) (pss_cons (ps_set (i := 2) sc__law_take.nd rfl (Or.inl rfl) (pe_op op_mod (pe_callTy call_int1 (by rfl) C_b_int (by decide +kernel) (pa_cons (pe_ix ix_list (pv 0) pe_int (fun _ _ => rfl)) pa_nil)) (pv 1)))
    (pss_cons (ps_asg (pe_op op_fdivZ (pe_callTy call_int1 (by rfl) C_b_int (by decide +kernel) (pa_cons (pe_ix ix_list (pv 0) pe_int (fun _ _ => rfl)) pa_nil)) (pv 1)) (pg_sub (pv 0) pe_int set_list))
    (pss_one (ps_ret (pv 2))))) (pss_nil))
    (pss_cons (ps_set (i := 3) sc__law_take.nd rfl (Or.inl rfl) (pe_op op_mod (pe_op op_pow (pe_callTy call_int1 (by rfl) C_b_int (by decide +kernel) (pa_cons (pe_op op_add (pe_op op_add (pe_op op_mul (pe_op op_mod (pe_callTy call_int1 (by rfl) C_b_int (by decide +kernel) (pa_cons (pe_ix ix_list (pv 0) pe_int (fun _ _ => rfl)) pa_nil)) pe_int) pe_int) (pe_op op_mul (pe_ix ix_list (pv 0) pe_int (fun _ _ => rfl)) pe_int)) pe_int) pa_nil)) pe_int) pe_int))
    (pss_cons (ps_set (i := 3) sc__law_take.nd rfl (Or.inl rfl) (pe_op op_mod (pe_op op_pow (pe_callTy call_int1 (by rfl) C_b_int (by decide +kernel) (pa_cons (pe_op op_add (pe_op op_add (pe_op op_mul (pv 3) pe_int) (pe_op op_mul (pe_ix ix_list (pv 0) pe_int (fun _ _ => rfl)) pe_int)) pe_int) pa_nil)) pe_int) pe_int))
    (pss_one (ps_ret (pe_op op_mod (pe_op op_fdivZ (pv 3) pe_int) (pv 1))))))), ?_⟩
  try dsimp only [cxOf]
  walk_at "rd"
  refine i_ix1 (SqL.of hp) ?_
  walk_at "rd"
  refine i_setL (ys := [V.int c, V.int (k0 + 1), V.bl fl]) hp rfl rfl fun H2 e2 s2 => ?_
  have cl : ∀ i, CDivZ i l := fun i => cdivZ (by omega) hzl
  walk_at "rd"
  refine i_ix2 (SqL.of e2) ?_
  walk_at "rd"
  cases fl
  · walk_at "rd"
    refine i_ix0 (SqL.of e2) ?_
    walk_at "rd"
    refine .inl ⟨_, rfl, ?_⟩
    walk_at "rd"
    refine i_ix1 (SqL.of e2) ?_
    walk_at "rd"
    refine .inl ⟨_, rfl, ?_⟩
    walk_at "rd"
    have h1 := Int.emod_lt_of_pos c (show (0 : Int) < 2147483647 by decide)
    have h2 := Int.emod_nonneg c (show (2147483647 : Int) ≠ 0 by decide)
    refine i_rI ⟨by decide, by decide, ?_⟩ ?_
    · omega
    walk_at "rd"
    refine i_ix1 (SqL.of e2) ?_
    walk_at "rd"
    refine .inl ⟨_, rfl, ?_⟩
    walk_at "rd"
    have h3 := Int.emod_lt_of_pos ((c % 2147483647 * 48271 + (k0 + 1) * 69621 + 11) ^ (5 : Int).toNat) (show (0 : Int) < 2147483647 by decide)
    have h4 := Int.emod_nonneg ((c % 2147483647 * 48271 + (k0 + 1) * 69621 + 11) ^ (5 : Int).toNat) (show (2147483647 : Int) ≠ 0 by decide)
    refine i_rI ⟨by decide, by decide, ?_⟩ ?_
    · omega
    walk_at "rd"
    exact k _ H2 (Int.emod_nonneg _ (by omega)) (Int.emod_lt_of_pos _ h0) s2 ⟨_, _, _, e2, by omega, by omega⟩
  · walk_at "rd"
    refine i_ix0 (SqL.of e2) ?_
    walk_at "rd"
    refine .inl ⟨_, rfl, ?_⟩
    walk_at "rd"
    refine i_ix0 (SqL.of e2) ?_
    walk_at "rd"
    refine .inl ⟨_, rfl, ?_⟩
    walk_at "rd"
    refine i_rI (cl _) ?_
    walk_at "rd"
    refine i_setL (ys := [V.int (c.fdiv l), V.int (k0 + 1), V.bl true]) e2 rfl rfl fun H3 e3 s3 => ?_
    walk_at "rd"
    exact k _ H3 (Int.emod_nonneg _ (by omega)) (Int.emod_lt_of_pos _ h0) (fun b hb => (s3 b hb).trans (s2 b hb)) ⟨_, _, _, e3, by omega, by omega⟩
def pq (p : Rat) : List V := [.int p.num, .int (p.den : Int)]
def spFrac : Sp := fun vs H Q _ => vs.length = 2 ∧ ∃ a b : Int, vs = [.int a, .int b] ∧ 0 < b ∧ ZR.Sz 4000 a ∧ ZR.Sz 4000 b ∧
  ∀ p H', H p = none → Same H H' → H' p = some (.tup (pq ((a : Rat) / (b : Rat)))) → (∀ c, c ≠ p → H' c = H c) → Q (.ref p) H'
abbrev s__law_frac : Stmt := top 23
theorem sc__law_frac : FnScope ["_law_top", "_law_bottom", "_law_one", "_law_other"] ["_law_top", "_law_bottom"] (defScope s__law_frac) := ⟨rfl, rfl, rfl, by decide +kernel, rfl, by decide +kernel, by decide +kernel⟩
theorem ok__law_frac {P : Program} {w : World} {K : PySem.W.Frag} {mg : Str → Option Value} {base : Heap} {f : Addr} {fd : FuncData} (F : L2.Fun K "_law_frac" "_law_frac" s__law_frac f fd)
    (C_b_abs : mg "abs" = none)
    (C_b_int : mg "int" = none) :
    FnOk P w K mg base (L2.CX P w) 1 f fd ["_law_top", "_law_bottom"] spFrac := by
  refine fnOk_mk F sc__law_frac (fun vs H Q E h => h.1) (fun cdv A outer s H vs Q E hr h => ?_)
  obtain ⟨_, a, b, rfl, hb, za, zb, k⟩ := h
  refine ⟨_, pss_cons (ps_par (i := 2) (j := 3) (by rfl) sc__law_frac.nd rfl rfl (by decide) rfl rfl (pa_cons (pe_callB call_abs (by rfl) C_b_abs (by decide +kernel) (pa_cons (pv 0) pa_nil)) (pa_cons (pe_callB call_abs (by rfl) C_b_abs (by decide +kernel) (pa_cons (pv 1) pa_nil)) pa_nil)) (by rfl))
    (pss_cons (ps_while (passes_of rfl) (pt_cmpR op_ne (pv 3) pe_int (nomark _)) (pss_one (ps_par (i := 2) (j := 3) (by rfl) sc__law_frac.nd rfl rfl (by decide) rfl rfl (pa_cons (pv 3) (pa_cons (pe_op op_mod (pe_callTy call_int1 (by rfl) C_b_int (by decide +kernel) (pa_cons (pv 2) pa_nil)) (pv 3)) pa_nil)) (by rfl))))
    (pss_one (ps_ret (pe_tup (pa_cons (pe_op op_fdivZ (pe_callTy call_int1 (by rfl) C_b_int (by decide +kernel) (pa_cons (pv 0) pa_nil)) (pv 2)) (pa_cons (pe_op op_fdivZ (pe_callTy call_int1 (by rfl) C_b_int (by decide +kernel) (pa_cons (pv 1) pa_nil)) (pv 2)) pa_nil)))))), ?_⟩
  try dsimp only [cxOf]
  walk_at "rd"
  refine ⟨a, rfl, ?_⟩
  walk_at "rd"
  refine ⟨b, rfl, ?_⟩
  walk_at "rd"
  refine while_by (fun σ H' => ∃ f s : Int, σ = [some (.int a), some (.int b), some (.int f), some (.int s)] ∧ H' = H ∧ 0 ≤ f ∧ 0 ≤ s ∧ f.natAbs < 2 ^ 4000 ∧ s.natAbs < 2 ^ 4000 ∧ Nat.gcd f.natAbs s.natAbs = Nat.gcd a.natAbs b.natAbs)
    (fun σ _ => match σ with | [_, _, _, some (.int s)] => s.natAbs | _ => 0) ⟨_, _, rfl, rfl, ?_, ?_, ?_, ?_, ?_⟩ ?_ ?_
  · split <;> omega
  · split <;> omega
  · have := za; unfold ZR.Sz at this; split <;> omega
  · have := zb; unfold ZR.Sz at this; split <;> omega
  · congr 1 <;> split <;> omega
  · rintro σ H2 ⟨f, s, rfl, rfl, hf, hs, lf, ls, hg⟩
    walk_at "rd"
    refine i_ndec (fun e => ?_) (fun e => ?_)
    · have sp : 0 < s := by omega
      walk_at "rd"
      refine .inl ⟨_, rfl, ?_⟩
      walk_at "rd"
      have h1 : f % s < s := Int.emod_lt_of_pos f sp
      have h2 := Int.emod_nonneg f (show s ≠ 0 by omega)
      refine ⟨⟨_, _, rfl, rfl, hs, h2, ls, by omega, ?_⟩, ?_⟩
      · rw [ZR.euclid_step hf sp]
        exact hg
      · show (f % s).natAbs < s.natAbs
        omega
    · subst e
      have ef : f = ZR.sg a b := by
        unfold ZR.sg
        rw [if_neg (by omega), ← hg]
        simp
        omega
      have f0 : f ≠ 0 := by
        rw [ef]
        exact ZR.sg_ne a (by omega)
      have cf : ∀ i, CDivZ i f := fun i => ⟨f0, PySem.Flt.log2_lt_of (by decide) (Nat.lt_of_lt_of_le lf (Nat.pow_le_pow_right (by decide) (by decide)))⟩
      walk_at "rd"
      refine .inl ⟨_, rfl, ?_⟩
      walk_at "rd"
      refine i_rI (cf _) ?_
      walk_at "rd"
      refine .inl ⟨_, rfl, ?_⟩
      walk_at "rd"
      refine i_rI (cf _) ?_
      walk_at "rd"
      refine i_tup1 (Nat.le_of_ble_eq_true rfl) fun q H3 hq s3 e3 ho => ?_
      rw [ef, ZR.norm_num a b (by omega), ZR.norm_den a b (by omega)] at e3
      exact k q H3 hq s3 e3 ho
  · intro σ H Q Q' kk h
    obtain ⟨y, e, q1, q2⟩ := h
    refine ⟨y, e, q1, ?_⟩
    obtain ⟨c, ec, q⟩ := q2
    exact ⟨c, ec, kk _ _ q⟩
theorem i_frac {a b : Int} {H : Hp} {Q : VK} {E : XK} (hb : 0 < b) (za : ZR.Sz 4000 a) (zb : ZR.Sz 4000 b) (k : ∀ p H', H p = none → Same H H' → H' p = some (.tup (pq ((a : Rat) / (b : Rat)))) → (∀ c, c ≠ p → H' c = H c) → Q (.ref p) H') :
    spFrac [.int a, .int b] H Q E := ⟨rfl, a, b, rfl, hb, za, zb, k⟩
theorem den_pos (p : Rat) : (0 : Int) < (p.den : Int) := by have := p.den_nz; omega
theorem i_p0 {K : PySem.W.Frag} {a : Addr} {H : Hp} {Q : VK} {p : Rat} (s : SqT K H a (pq p)) (h : Q (.int p.num) H) : rIxT K (.ref a) (.int 0) H Q := i_ixT (k := 0) s rfl h
theorem i_p1 {K : PySem.W.Frag} {a : Addr} {H : Hp} {Q : VK} {p : Rat} (s : SqT K H a (pq p)) (h : Q (.int (p.den : Int)) H) : rIxT K (.ref a) (.int 1) H Q := i_ixT (k := 1) s rfl h
def spQ2 (f : Rat → Rat → Rat) : Sp := fun vs H Q _ => vs.length = 2 ∧ ∃ (a b : Addr) (p q : Rat), vs = [.ref a, .ref b] ∧ H a = some (.tup (pq p)) ∧ H b = some (.tup (pq q)) ∧ ZR.Bd 1900 p ∧ ZR.Bd 1900 q ∧
  ∀ c H', H c = none → Same H H' → H' c = some (.tup (pq (f p q))) → (∀ b, b ≠ c → H' b = H b) → Q (.ref c) H'
abbrev spQAdd : Sp := spQ2 (· + ·)
abbrev spQMul : Sp := spQ2 (· * ·)
abbrev s__law_add : Stmt := top 24
theorem sc__law_add : FnScope ["_law_one", "_law_other"] ["_law_one", "_law_other"] (defScope s__law_add) := ⟨rfl, rfl, rfl, by decide +kernel, rfl, by decide +kernel, by decide +kernel⟩
theorem ok__law_add {P : Program} {w : World} {K : PySem.W.Frag} {mg : Str → Option Value} {base : Heap} {f : Addr} {fd : FuncData} (F : L2.Fun K "_law_add" "_law_add" s__law_add f fd)
    (C_f_law_frac : Cal P w K mg base "_law_frac" 1 spFrac) :
    FnOk P w K mg base (L2.CX P w) 2 f fd ["_law_one", "_law_other"] spQAdd := by
  refine fnOk_mk F sc__law_add (fun vs H Q E h => h.1) (fun cdv A outer s H vs Q E hr h => ?_)
  obtain ⟨_, a, b, p, q, rfl, ha, hb, bp, bq, k⟩ := h
  refine ⟨_, pss_one (ps_ret (z_callC C_f_law_frac hr passN (pa_cons (pe_op op_add (pe_op op_mulW (pe_ix ix_tup (pv 0) pe_int (fun _ _ => rfl)) (pe_ix ix_tup (pv 1) pe_int (fun _ _ => rfl))) (pe_op op_mulW (pe_ix ix_tup (pv 1) pe_int (fun _ _ => rfl)) (pe_ix ix_tup (pv 0) pe_int (fun _ _ => rfl)))) (pa_cons (pe_op op_mulW (pe_ix ix_tup (pv 0) pe_int (fun _ _ => rfl)) (pe_ix ix_tup (pv 1) pe_int (fun _ _ => rfl))) pa_nil)))), ?_⟩
  try dsimp only [cxOf]
  walk_at "rd"
  refine i_p0 (.of ha) ?_
  walk_at "rd"
  refine i_p1 (.of hb) ?_
  walk_at "rd"
  refine i_p0 (.of hb) ?_
  walk_at "rd"
  refine i_p1 (.of ha) ?_
  walk_at "rd"
  refine i_p1 (.of ha) ?_
  walk_at "rd"
  refine i_p1 (.of hb) ?_
  walk_at "rd"
  refine i_frac (Int.mul_pos (den_pos p) (den_pos q)) (((bp.n.mul bq.d).add (bq.n.mul bp.d)).mono (by decide)) ((bp.d.mul bq.d).mono (by decide)) fun c H' hc s e ho => k c H' hc s ?_ ho
  show H' c = some (.tup (pq (p + q)))
  rw [← ZR.r_add]
  exact e
abbrev s__law_mul : Stmt := top 25
theorem sc__law_mul : FnScope ["_law_one", "_law_other"] ["_law_one", "_law_other"] (defScope s__law_mul) := ⟨rfl, rfl, rfl, by decide +kernel, rfl, by decide +kernel, by decide +kernel⟩
theorem ok__law_mul {P : Program} {w : World} {K : PySem.W.Frag} {mg : Str → Option Value} {base : Heap} {f : Addr} {fd : FuncData} (F : L2.Fun K "_law_mul" "_law_mul" s__law_mul f fd)
    (C_f_law_frac : Cal P w K mg base "_law_frac" 1 spFrac) :
    FnOk P w K mg base (L2.CX P w) 2 f fd ["_law_one", "_law_other"] spQMul := by
  refine fnOk_mk F sc__law_mul (fun vs H Q E h => h.1) (fun cdv A outer s H vs Q E hr h => ?_)
  obtain ⟨_, a, b, p, q, rfl, ha, hb, bp, bq, k⟩ := h
  refine ⟨_, pss_one (ps_ret (z_callC C_f_law_frac hr passN (pa_cons (pe_op op_mulW (pe_ix ix_tup (pv 0) pe_int (fun _ _ => rfl)) (pe_ix ix_tup (pv 1) pe_int (fun _ _ => rfl))) (pa_cons (pe_op op_mulW (pe_ix ix_tup (pv 0) pe_int (fun _ _ => rfl)) (pe_ix ix_tup (pv 1) pe_int (fun _ _ => rfl))) pa_nil)))), ?_⟩
  try dsimp only [cxOf]
  walk_at "rd"
  refine i_p0 (.of ha) ?_
  walk_at "rd"
  refine i_p0 (.of hb) ?_
  walk_at "rd"
  refine i_p1 (.of ha) ?_
  walk_at "rd"
  refine i_p1 (.of hb) ?_
  walk_at "rd"
  refine i_frac (Int.mul_pos (den_pos p) (den_pos q)) ((bp.n.mul bq.n).mono (by decide)) ((bp.d.mul bq.d).mono (by decide)) fun c H' hc s e ho => k c H' hc s ?_ ho
  show H' c = some (.tup (pq (p * q)))
  rw [← ZR.r_mul]
  exact e
def spLess : Sp := fun vs H Q _ => vs.length = 2 ∧ ∃ (a b : Addr) (p q : Rat), vs = [.ref a, .ref b] ∧ H a = some (.tup (pq p)) ∧ H b = some (.tup (pq q)) ∧ ZR.Bd 1900 p ∧ ZR.Bd 1900 q ∧ Q (.bl (decide (p < q))) H
abbrev s__law_less : Stmt := top 30
theorem sc__law_less : FnScope ["_law_one", "_law_other"] ["_law_one", "_law_other"] (defScope s__law_less) := ⟨rfl, rfl, rfl, by decide +kernel, rfl, by decide +kernel, by decide +kernel⟩
theorem ok__law_less {P : Program} {w : World} {K : PySem.W.Frag} {mg : Str → Option Value} {base : Heap} {f : Addr} {fd : FuncData} (F : L2.Fun K "_law_less" "_law_less" s__law_less f fd) :
    FnOk P w K mg base (L2.CX P w) 1 f fd ["_law_one", "_law_other"] spLess := by
  refine fnOk_mk F sc__law_less (fun vs H Q E h => h.1) (fun cdv A outer s H vs Q E hr h => ?_)
  obtain ⟨_, a, b, p, q, rfl, ha, hb, bp, bq, k⟩ := h
  refine ⟨_, pss_one (ps_ret (pe_cmpR op_lt (pe_op op_mulW (pe_ix ix_tup (pv 0) pe_int (fun _ _ => rfl)) (pe_ix ix_tup (pv 1) pe_int (fun _ _ => rfl))) (pe_op op_mulW (pe_ix ix_tup (pv 1) pe_int (fun _ _ => rfl)) (pe_ix ix_tup (pv 0) pe_int (fun _ _ => rfl))) (nomark _))), ?_⟩
  try dsimp only [cxOf]
  walk_at "rd"
  refine i_p0 (.of ha) ?_
  walk_at "rd"
  refine i_p1 (.of hb) ?_
  walk_at "rd"
  refine i_p0 (.of hb) ?_
  walk_at "rd"
  refine i_p1 (.of ha) ?_
  walk_at "rd"
  have e : decide (p.num * (q.den : Int) < q.num * (p.den : Int)) = decide (p < q) := decide_eq_decide.mpr (ZR.lt_nd p q)
  rw [e]
  exact k
def spOf (CR : Addr) : Sp := fun vs H Q _ => vs.length = 1 ∧ ∃ (a : Addr) (p : Rat), vs = [.ref a] ∧ IsR CR H a p ∧ ∀ c H', H c = none → Same H H' → H' c = some (.tup (pq p)) → (∀ b, b ≠ c → H' b = H b) → Q (.ref c) H'
abbrev s__law_of : Stmt := top 26
theorem sc__law_of : FnScope ["_law_ratio"] ["_law_ratio"] (defScope s__law_of) := ⟨rfl, rfl, rfl, by decide +kernel, rfl, by decide +kernel, by decide +kernel⟩
theorem ok__law_of {P : Program} {w : World} {K : PySem.W.Frag} {mg : Str → Option Value} {base : Heap} {CR : Addr} {f : Addr} {fd : FuncData} (F : L2.Fun K "_law_of" "_law_of" s__law_of f fd)
    (C_c_Ratio : ClO K CR)
    (C_na_Ratio_bottom : NoAttr K CR "bottom")
    (C_na_Ratio_top : NoAttr K CR "top") :
    FnOk P w K mg base (L2.CX P w) 1 f fd ["_law_ratio"] (spOf CR) := by
  refine fnOk_mk F sc__law_of (fun vs H Q E h => h.1) (fun cdv A outer s H vs Q E hr h => ?_)
  obtain ⟨_, a, p, rfl, ha, k⟩ := h
  refine ⟨_, pss_one (ps_ret (pe_tup (pa_cons (pe_fld (pv 0) rfl) (pa_cons (pe_fld (pv 0) rfl) pa_nil)))), ?_⟩
  try dsimp only [cxOf]
  walk_at "rd"
  exact i_tup1 (Nat.le_of_ble_eq_true rfl) fun c H' hc s e ho => k c H' hc s e ho
structure Rw where
  q : Addr
  r : Addr
  v : V
  d : PyData
  p : Rat
def rv (L : List Rw) : List V := L.map fun x => V.ref x.q
def ab (L : List Rw) : List ((V × PyData) × Rat) := L.map fun x => ((x.v, x.d), x.p)
/-- a thing -/
inductive Th (H : Hp) : V → PyData → Prop
  | non : Th H .non .none
  | int (i : Int) : Th H (.int i) (.int i)
  | str (z : Str) (h : PyData.strOk z = true) : Th H (.str z) (.str z)
  | tup1 {a : Addr} (z : Str) (h : PyData.strOk z = true) (e : H a = some (.tup [.str z])) : Th H (.ref a) (.tuple [.str z])
  | tup2 {a : Addr} (z : Str) (i : Int) (h : PyData.strOk z = true) (e : H a = some (.tup [.str z, .int i])) : Th H (.ref a) (.tuple [.str z, .int i])
def KeepT (H H' : Hp) : Prop := ∀ b xs, H b = some (.tup xs) → H' b = some (.tup xs)
theorem KeepT.of {H H' : Hp} (s : Same H H') : KeepT H H' := fun _ _ e => s _ _ e
theorem KeepT.trans {H H1 H2 : Hp} (s : KeepT H H1) (t : KeepT H1 H2) : KeepT H H2 := fun _ _ e => t _ _ (s _ _ e)
theorem KeepT.but {H H' : Hp} {p : Addr} {o : HO} (e : H p = some o) (n : ∀ xs, o ≠ .tup xs) (h : ∀ b, b ≠ p → H' b = H b) : KeepT H H' := fun b xs eb => by
  rw [h b fun z => by rw [z, e] at eb; cases eb; exact n _ rfl]; exact eb
theorem Th.keep {H H' : Hp} (s : KeepT H H') {v : V} {d : PyData} (h : Th H v d) : Th H' v d := by
  cases h with
  | non => exact .non
  | int i => exact .int i
  | str z h => exact .str z h
  | tup1 z h e => exact .tup1 z h (s _ _ e)
  | tup2 z i h e => exact .tup2 z i h (s _ _ e)
theorem Th.dp {K : PySem.W.Frag} {H : Hp} {v : V} {d : PyData} (h : Th H v d) : Dp K H v d := by
  cases h with
  | non => exact .non
  | int i => exact .int i
  | str z h => exact .str z
  | tup1 z h e => exact .tup (.of e) (.cons (.str _) .nil)
  | tup2 z i h e => exact .tup (.of e) (.cons (.str _) (.cons (.int _) .nil))
def RowsL (H : Hp) (L : List Rw) : Prop := ∀ x ∈ L, H x.q = some (.tup [x.v, .ref x.r]) ∧ H x.r = some (.tup (pq x.p)) ∧ Th H x.v x.d
theorem RowsL.keep {H H' : Hp} {L : List Rw} (s : KeepT H H') (h : RowsL H L) : RowsL H' L := fun x hx => let ⟨h1, h2, h3⟩ := h x hx; ⟨s _ _ h1, s _ _ h2, h3.keep s⟩
theorem rv_len (L : List Rw) : (rv L).length = L.length := by unfold rv; simp
theorem ab_len (L : List Rw) : (ab L).length = L.length := by unfold ab; simp
theorem rv_get {L : List Rw} {i : Nat} {x : V} (h : (rv L)[i]? = some x) : ∃ (y : Rw) (lt : i < L.length), y = L[i] ∧ x = .ref y.q ∧ y ∈ L := by
  have lt : i < L.length := by
    have := (List.getElem?_eq_some_iff.mp h).1
    rw [rv_len] at this
    exact this
  refine ⟨L[i], lt, rfl, ?_, List.getElem_mem lt⟩
  unfold rv at h
  simpa [lt] using h.symm
theorem ab_take (L : List Rw) (i : Nat) : ab (L.take i) = (ab L).take i := by unfold ab; rw [List.map_take]
theorem ab_snoc {L : List Rw} {i : Nat} (lt : i < L.length) : ab (L.take (i + 1)) = ab (L.take i) ++ [((L[i].v, L[i].d), L[i].p)] := by
  unfold ab
  rw [List.take_succ_eq_append_getElem lt, List.map_append]
  rfl
theorem pq0 : pq 0 = [.int 0, .int 1] := rfl
theorem i_q2 {f : Rat → Rat → Rat} {a b : Addr} {p q : Rat} {H : Hp} {Q : VK} {E : XK} (ha : H a = some (.tup (pq p))) (hb : H b = some (.tup (pq q))) (bp : ZR.Bd 1900 p) (bq : ZR.Bd 1900 q)
    (h : ∀ c H', H c = none → Same H H' → H' c = some (.tup (pq (f p q))) → (∀ b, b ≠ c → H' b = H b) → Q (.ref c) H') : spQ2 f [.ref a, .ref b] H Q E := ⟨rfl, a, b, p, q, rfl, ha, hb, bp, bq, h⟩
def spSum (K : PySem.W.Frag) : Sp := fun vs H Q _ => vs.length = 1 ∧ ∃ (l : Addr) (L : List Rw) (D M : Nat), vs = [.ref l] ∧ SqL K H l (rv L) ∧ RowsL H L ∧ GL D M (ab L) ∧ Sml D M (L.length + 1) ∧
  ∀ c H', Same H H' → H' c = some (.tup (pq (ZD.sm (ab L)))) → Q (.ref c) H'
theorem GL.bd {D M : Nat} {L : List Rw} (h : GL D M (ab L)) (s : Sml D M (L.length + 1)) {x : Rw} (hx : x ∈ L) : ZR.Bd 1000 x.p :=
  s.bd (m := 1) (by rw [Nat.one_mul]; exact (h ((x.v, x.d), x.p) (List.mem_map.mpr ⟨x, hx, rfl⟩)).2) (by omega)
abbrev s__law_sum : Stmt := top 28
theorem sc__law_sum : FnScope ["_law_rows", "_law_whole", "_law_thing", "_law_share"] ["_law_rows"] (defScope s__law_sum) := ⟨rfl, rfl, rfl, by decide +kernel, rfl, by decide +kernel, by decide +kernel⟩
theorem ok__law_sum {P : Program} {w : World} {K : PySem.W.Frag} {mg : Str → Option Value} {base : Heap} {f : Addr} {fd : FuncData} (F : L2.Fun K "_law_sum" "_law_sum" s__law_sum f fd)
    (C_f_law_add : Cal P w K mg base "_law_add" 2 spQAdd) :
    FnOk P w K mg base (L2.CX P w) 3 f fd ["_law_rows"] (spSum K) := by
  refine fnOk_mk F sc__law_sum (fun vs H Q E h => h.1) (fun cdv A outer s H vs Q E hr h => ?_)
  obtain ⟨_, l, L, D, M, rfl, hl, hR, hg, hs, k⟩ := h
  refine ⟨_, pss_cons (ps_set (i := 1) sc__law_sum.nd rfl (Or.inl rfl) (pe_tup (pa_cons pe_int (pa_cons pe_int pa_nil))))
    (pss_cons (ps_for (passes_of rfl) rfl (pi_any (K := K) rfl (pv 0)) (k_tup (K := K) (n := 2) rfl rfl (pgs_cons (pg_name (i := 2) sc__law_sum.nd rfl (Or.inl rfl)) (pgs_cons (pg_name (i := 3) sc__law_sum.nd rfl (Or.inl rfl)) pgs_nil))) (pss_one (ps_set (i := 1) sc__law_sum.nd rfl (Or.inl rfl) (z_callC C_f_law_add hr passN (pa_cons (pv 1) (pa_cons (pv 3) pa_nil))))))
    (pss_one (ps_ret (pv 1)))), ?_⟩
  try dsimp only [cxOf]
  walk_at "rd"
  refine i_tup1 (Nat.le_of_ble_eq_true rfl) fun c H1 hc s1 e1 ho => ?_
  walk_at "rd"
  refine i_forA (H0 := H) (fun i σ H' => ∃ c u v, σ = [some (.ref l), some (.ref c), u, v] ∧ Same H H' ∧ H' c = some (.tup (pq (ZD.sm (ab (L.take i)))))) (.inl hl)
    ⟨c, _, _, rfl, s1, e1⟩ (fun i σ H' => fun ⟨_, _, _, _, s, _⟩ => s) ?_ ?_
  · rintro i x σ H2 hi ⟨c2, u, v, rfl, s2, e2⟩
    obtain ⟨y, lt, ey, rfl, hm⟩ := rv_get hi
    obtain ⟨g1, g2, _⟩ := hR y hm
    refine ⟨y.q, _, rfl, .of (s2 _ _ g1), rfl, ?_⟩
    walk_at "rd"
    have b1 : ZR.Bd 1900 (ZD.sm (ab (L.take i))) := by
      rw [ab_take]
      exact (hs.bd (gl_sm (gl_take hg i)) (by rw [List.length_take, ab_len]; omega)).mono (by decide)
    refine i_q2 e2 (s2 _ _ g2) b1 ((hg.bd hs hm).mono (by decide)) fun c3 H3 hc3 s3 e3 ho3 => ?_
    walk_at "rd"
    refine ⟨_, _, _, rfl, s2.trans s3, ?_⟩
    rw [ab_snoc lt, ZD.sm_snoc, ← ey]
    exact e3
  · rintro σ H2 ⟨c2, u, v, rfl, s2, e2⟩
    walk_at "rd"
    rw [rv_len, List.take_length] at e2
    exact k c2 H2 s2 e2
def tops : List Int := [1, 1, 2, 3, 10 ^ 12]
def shOk (t b : Int) : Bool := decide (0 < (t : Rat) / (b : Rat)) && (decide ((t : Rat) / (b : Rat) * ((60 : Nat) : Rat) = ((t * (60 / b) : Int) : Rat)) && decide ((t : Rat) / (b : Rat) ≤ ((10 ^ 12 : Nat) : Rat)))
theorem sh_all : ∀ t ∈ tops, ∀ k : Nat, k < 6 → shOk t (1 + (k : Int)) = true := by
  have h : (tops.all fun t => (List.range 6).all fun (k : Nat) => shOk t (1 + (k : Int))) = true := by decide +kernel
  intro t ht k hk
  exact List.all_eq_true.mp (List.all_eq_true.mp h t ht) k (List.mem_range.mpr hk)
theorem sh_gd {t b : Int} (h : shOk t b = true) : 0 < (t : Rat) / (b : Rat) ∧ ZD.Gd 60 (10 ^ 12) ((t : Rat) / (b : Rat)) := by
  unfold shOk at h
  rw [Bool.and_eq_true, Bool.and_eq_true] at h
  obtain ⟨h1, h2, h3⟩ := h
  have h1 := of_decide_eq_true h1
  exact ⟨h1, ⟨_, of_decide_eq_true h2⟩, by grind, of_decide_eq_true h3⟩
/-- what the things are -/
def thv (a b : Addr) : List V := [.str "x", .int 1, .non, .ref a, .str "", .int 0, .ref b]
def thd : List PyData := [.str "x", .int 1, .none, .tuple [.str "y", .int 2], .str "", .int 0, .tuple [.str "x"]]
def okD (d : PyData) : Prop := d ∈ thd
theorem th_at {H : Hp} {a b : Addr} (ha : H a = some (.tup [.str "y", .int 2])) (hb : H b = some (.tup [.str "x"])) : ∀ k : Nat, k < 7 → ∃ v d, (thv a b)[k]? = some v ∧ d ∈ thd ∧ Th H v d
  | 0, _ => ⟨_, _, rfl, .head _, .str _ (by decide +kernel)⟩
  | 1, _ => ⟨_, _, rfl, .tail _ (.head _), .int _⟩
  | 2, _ => ⟨_, _, rfl, .tail _ (.tail _ (.head _)), .non⟩
  | 3, _ => ⟨_, _, rfl, .tail _ (.tail _ (.tail _ (.head _))), .tup2 _ _ (by decide +kernel) ha⟩
  | 4, _ => ⟨_, _, rfl, .tail _ (.tail _ (.tail _ (.tail _ (.head _)))), .str _ (by decide +kernel)⟩
  | 5, _ => ⟨_, _, rfl, .tail _ (.tail _ (.tail _ (.tail _ (.tail _ (.head _))))), .int _⟩
  | 6, _ => ⟨_, _, rfl, .tail _ (.tail _ (.tail _ (.tail _ (.tail _ (.tail _ (.head _)))))), .tup1 _ (by decide +kernel) hb⟩
  | k + 7, h => by omega
theorem PoolN.mono {H : Hp} {p : Addr} {n m : Nat} (h : PoolN H p n) (l : n ≤ m) : PoolN H p m := let ⟨c, k, f, e, h1, h2⟩ := h; ⟨c, k, f, e, h1, by omega⟩
theorem PoolN.same {H H' : Hp} {p : Addr} {n : Nat} (s : Same H H') (h : PoolN H p n) : PoolN H' p n := let ⟨c, k, f, e, h1, h2⟩ := h; ⟨c, k, f, s _ _ e, h1, h2⟩
theorem PoolN.keepT {H H' : Hp} {p : Addr} {n : Nat} (h : PoolN H p n) (o : ∀ b, b ≠ p → H' b = H b) : KeepT H H' := let ⟨_, _, _, e, _⟩ := h; .but e (fun _ z => by cases z) o
theorem PoolN.ne {H : Hp} {p : Addr} {n : Nat} (h : PoolN H p n) {q : Addr} (e : H q = none) : q ≠ p := fun z => by obtain ⟨_, _, _, h, _⟩ := h; rw [z, h] at e; cases e
theorem i_takeN {H : Hp} {p : Addr} {l : Int} {n : Nat} {Q : VK} {E : XK} (h : PoolN H p n) (hn : n ≤ 1000) (h0 : 0 < l) (hl : l ≤ 100) (k : ∀ r H', 0 ≤ r → r < l → (∀ b, b ≠ p → H' b = H b) → PoolN H' p (n + 1) → Q (.int r) H') : spTakeN [.ref p, .int l] H Q E :=
  ⟨rfl, p, l, n, rfl, h, hn, h0, hl, k⟩
def But' (q : Addr) (H H' : Hp) : Prop := ∀ b o, b ≠ q → H b = some o → H' b = some o
def spRow : Sp := fun vs H Q _ => vs.length = 1 ∧ ∃ (p : Addr) (n : Nat), vs = [.ref p] ∧ PoolN H p n ∧ n ≤ 500 ∧
  ∀ l H' L, H l = none → But' p H H' → PoolN H' p (n + 19) → H' l = some (.lst (rv L)) → RowsL H' L → L.length ≤ 6 → GL 60 (10 ^ 12) (ab L) → (∀ x ∈ L, okD x.d) → Q (.ref l) H'
abbrev s__law_row : Stmt := top 27
theorem sc__law_row : FnScope ["_law_pool_here", "_law_things", "_law_found", "_law_k", "_law_share"] ["_law_pool_here"] (defScope s__law_row) := ⟨rfl, rfl, rfl, by decide +kernel, rfl, by decide +kernel, by decide +kernel⟩
theorem ok__law_row {P : Program} {w : World} {K : PySem.W.Frag} {mg : Str → Option Value} {base : Heap} {f : Addr} {fd : FuncData} (F : L2.Fun K "_law_row" "_law_row" s__law_row f fd)
    (C_b_range : mg "range" = none)
    (C_f_law_frac : Cal P w K mg base "_law_frac" 1 spFrac)
    (C_f_law_take : Cal P w K mg base "_law_take" 1 spTakeN) :
    FnOk P w K mg base (L2.CX P w) 2 f fd ["_law_pool_here"] spRow := by
  refine fnOk_mk F sc__law_row (fun vs H Q E h => h.1) (fun cdv A outer s H vs Q E hr h => ?_)
  obtain ⟨_, p, n, rfl, hp, hn, k⟩ := h
  refine ⟨_, pss_cons (ps_set (i := 1) sc__law_row.nd rfl (Or.inl rfl) (pe_lst (pa_cons pe_str (pa_cons pe_int (pa_cons pe_non (pa_cons (pe_tup (pa_cons pe_str (pa_cons pe_int pa_nil))) (pa_cons pe_str (pa_cons pe_int (pa_cons (pe_tup (pa_cons pe_str pa_nil)) pa_nil)))))))))
    (pss_cons (ps_set (i := 2) sc__law_row.nd rfl (Or.inl rfl) (pe_lst pa_nil))
    (pss_cons (ps_for (passes_of rfl) rfl (pi_range1 (by rfl) C_b_range (pa_cons (z_callC C_f_law_take hr passN (pa_cons (pv 0) (pa_cons pe_int pa_nil))) pa_nil)) (pg_name (i := 3) sc__law_row.nd rfl (Or.inl rfl)) (pss_cons (ps_set (i := 4) sc__law_row.nd rfl (Or.inl rfl) (z_callC C_f_law_frac hr passN (pa_cons (pe_ix ix_list (pe_lst (pa_cons pe_int (pa_cons pe_int (pa_cons pe_int (pa_cons pe_int (pa_cons (pe_op op_pow pe_int pe_int) pa_nil)))))) (z_callC C_f_law_take hr passN (pa_cons (pv 0) (pa_cons pe_int pa_nil))) (fun _ _ => rfl)) (pa_cons (pe_op op_add pe_int (z_callC C_f_law_take hr passN (pa_cons (pv 0) (pa_cons pe_int pa_nil)))) pa_nil))))
    (pss_one (ps_expr (pe_bm PySem.F.plainAttrs_list PySem.F.slot_list_append PySem.F.type_list_append mt_append (pv 2) (pa_cons (pe_tup (pa_cons (pe_ix ix_list (pv 1) (z_callC C_f_law_take hr passN (pa_cons (pv 0) (pa_cons pe_int pa_nil))) (fun _ _ => rfl)) (pa_cons (pv 4) pa_nil))) pa_nil))))))
    (pss_one (ps_ret (pv 2))))), ?_⟩
  try dsimp only [cxOf]
  walk_at "rd"
  refine i_tup1 (Nat.le_of_ble_eq_true rfl) fun a1 H1 ha1 s1 e1 o1 => ?_
  walk_at "rd"
  refine i_tup1 (Nat.le_of_ble_eq_true rfl) fun a2 H2 ha2 s2 e2 o2 => ?_
  walk_at "rd"
  refine i_lst1 (Nat.le_of_ble_eq_true rfl) fun t H3 ht s3 e3 o3 => ?_
  walk_at "rd"
  refine i_lst1 (Nat.le_of_ble_eq_true rfl) fun l H4 hl s4 e4 o4 => ?_
  walk_at "rd"
  have sm : Same H H4 := ((s1.trans s2).trans s3).trans s4
  have hp4 := hp.same sm
  have lH : H l = none := by
    cases z : H l with
    | none => rfl
    | some o => rw [((s1.trans s2).trans s3) _ _ z] at hl; cases hl
  have lt : l ≠ t := fun z => by rw [z, e3] at hl; cases hl
  refine i_takeN hp4 (by omega) (by decide) (by decide) fun r H5 r0 r1 o5 hp5 => ?_
  obtain ⟨m, rfl⟩ : ∃ m : Nat, r = (m : Int) := ⟨r.toNat, by omega⟩
  walk_at "rd"
  have lp : l ≠ p := (hp.same ((s1.trans s2).trans s3)).ne hl
  have tp : t ≠ p := (hp.same (s1.trans s2)).ne ht
  refine i_forR (n := m) rfl (by omega) (fun i σ H' => ∃ u w L, σ = [some (.ref p), some (.ref t), some (.ref l), u, w] ∧ PoolN H' p (n + 1 + 3 * i) ∧ But' p H H' ∧ H' t = some (.lst (thv a1 a2)) ∧ H' a1 = some (.tup [.str "y", .int 2]) ∧ H' a2 = some (.tup [.str "x"]) ∧
      H' l = some (.lst (rv L)) ∧ L.length = i ∧ RowsL H' L ∧ GL 60 (10 ^ 12) (ab L) ∧ ∀ x ∈ L, okD x.d)
    ⟨_, _, [], rfl, hp5, fun b o hb e => ?_, ?_, ?_, ?_, ?_, rfl, fun x hx => absurd hx (by simp), fun x hx => absurd hx (by simp [ab]), fun x hx => absurd hx (by simp)⟩ ?_ ?_
  · rw [o5 b hb]; exact sm _ _ e
  · rw [o5 t tp]; exact s4 _ _ e3
  · exact hp4.keepT o5 _ _ (s4 _ _ (s3 _ _ (s2 _ _ e1)))
  · exact hp4.keepT o5 _ _ (s4 _ _ (s3 _ _ e2))
  · rw [o5 l lp]; exact e4
  · rintro i σ H6 hi ⟨u, w, L, rfl, hp6, b6, et, ea1, ea2, el, hL, hR, hG, hok⟩
    walk_at "rd"
    refine i_lst1 (Nat.le_of_ble_eq_true rfl) fun tl H7 htl s7 e7 o7 => ?_
    have e7' : H7 tl = some (.lst (tops.map V.int)) := e7
    walk_at "rd"
    refine i_takeN (hp6.same s7) (by omega) (by decide) (by decide) fun r H8 q0 q1 o8 hp8 => ?_
    obtain ⟨j, rfl⟩ : ∃ j : Nat, r = (j : Int) := ⟨r.toNat, by omega⟩
    have tlp : tl ≠ p := hp6.ne htl
    have kt8 : KeepT H6 H8 := (KeepT.of s7).trans ((hp6.same s7).keepT o8)
    have e8 : H8 tl = some (.lst (tops.map V.int)) := by rw [o8 tl tlp]; exact e7'
    have hj : j < tops.length := by show j < 5; omega
    walk_at "rd"
    refine i_ixL (k := j) (v := V.int tops[j]) (SqL.of e8) (by rw [List.getElem?_map, List.getElem?_eq_getElem hj]; rfl) ?_
    walk_at "rd"
    refine i_takeN hp8 (by omega) (by decide) (by decide) fun r H9 q2 q3 o9 hp9 => ?_
    obtain ⟨g, rfl⟩ : ∃ g : Nat, r = (g : Int) := ⟨r.toNat, by omega⟩
    walk_at "rd"
    have hsh := sh_gd (sh_all _ (List.getElem_mem hj) g (by omega))
    have htop : tops[j].natAbs ≤ 10 ^ 12 := by
      have : ∀ t ∈ tops, t.natAbs ≤ 10 ^ 12 := by decide
      exact this _ (List.getElem_mem hj)
    refine i_frac (by omega) (ZR.Sz.mono (n := 50) (Nat.lt_of_le_of_lt htop (by decide +kernel)) (by decide)) (ZR.Sz.mono (n := 10) (Nat.lt_of_le_of_lt (show (1 + (g : Int)).natAbs ≤ 10 by omega) (by decide +kernel)) (by decide)) fun q H10 hq s10 e10 o10 => ?_
    walk_at "rd"
    have kt9 : KeepT H6 H9 := kt8.trans (hp8.keepT o9)
    have kt10 : KeepT H6 H10 := kt9.trans (.of s10)
    have el9 : H9 l = some (.lst (rv L)) := by rw [o9 l lp, o8 l lp]; exact s7 _ _ el
    refine ⟨tyL (s10 _ _ el9), ?_⟩
    walk_at "rd"
    refine i_takeN (hp9.same s10) (by omega) (by decide) (by decide) fun r H11 q4 q5 o11 hp11 => ?_
    obtain ⟨f, rfl⟩ : ∃ f : Nat, r = (f : Int) := ⟨r.toNat, by omega⟩
    have kt11 : KeepT H10 H11 := (hp9.same s10).keepT o11
    have et9 : H9 t = some (.lst (thv a1 a2)) := by rw [o9 t tp, o8 t tp]; exact s7 _ _ et
    obtain ⟨v, d, hv, hd, hth⟩ := th_at ((kt10.trans kt11) _ _ ea1) ((kt10.trans kt11) _ _ ea2) f (by omega)
    walk_at "rd"
    refine i_ixL (k := f) (v := v) (SqL.of (by rw [o11 t tp]; exact s10 _ _ et9)) hv ?_
    walk_at "rd"
    refine i_tup1 (Nat.le_of_ble_eq_true rfl) fun y H12 hy s12 e12 o12 => ?_
    walk_at "rd"
    have el12 : H12 l = some (.lst (rv L)) := s12 _ _ (by rw [o11 l lp]; exact s10 _ _ el9)
    refine i_app (xs := rv L) el12 (by rw [rv_len]; omega) fun H13 e13 o13 => ?_
    walk_at "rd"
    have kt13 : KeepT H12 H13 := .but el12 (fun _ z => by cases z) o13
    have yl : y ≠ l := fun z => by rw [z, o11 l lp, s10 _ _ el9] at hy; cases hy
    refine ⟨_, _, L ++ [⟨y, q, v, d, (tops[j] : Rat) / ((1 + (g : Int) : Int) : Rat)⟩], rfl, ?_, fun b o hb e => ?_, ?_, ?_, ?_, ?_, by rw [List.length_append, hL]; rfl, ?_, ?_, ?_⟩
    · obtain ⟨c, kk, fl, e, h1, h2⟩ := hp11
      exact ⟨c, kk, fl, by rw [o13 p (Ne.symm lp)]; exact s12 _ _ e, h1, by omega⟩
    · rw [o13 b (ne_of_none e lH)]
      refine s12 _ _ ?_
      rw [o11 b hb]
      refine s10 _ _ ?_
      rw [o9 b hb, o8 b hb]
      exact s7 _ _ (b6 b o hb e)
    · rw [o13 t (Ne.symm lt)]
      refine s12 _ _ ?_
      rw [o11 t tp]
      exact s10 _ _ et9
    · exact kt13 _ _ (s12 _ _ ((kt10.trans kt11) _ _ ea1))
    · exact kt13 _ _ (s12 _ _ ((kt10.trans kt11) _ _ ea2))
    · rw [e13]; unfold rv; rw [List.map_append]; rfl
    · intro x hx
      rcases List.mem_append.mp hx with hx | hx
      · exact hR.keep (((kt10.trans kt11).trans (.of s12)).trans kt13) x hx
      · rw [List.mem_singleton.mp hx]
        exact ⟨by rw [o13 y yl]; exact e12, kt13 _ _ (s12 _ _ (kt11 _ _ e10)), (hth.keep (.of s12)).keep kt13⟩
    · intro x hx
      unfold ab at hx
      rw [List.map_append] at hx
      rcases List.mem_append.mp hx with hx | hx
      · exact hG x hx
      · rw [List.mem_singleton.mp hx]
        exact hsh
    · intro x hx
      rcases List.mem_append.mp hx with hx | hx
      · exact hok x hx
      · rw [List.mem_singleton.mp hx]
        exact hd
  · rintro σ H6 ⟨u, w, L, rfl, hp6, b6, et, ea1, ea2, el, hL, hR, hG, hok⟩
    walk_at "rd"
    exact k l H6 L lH b6 (hp6.mono (by omega)) el hR (by omega) hG hok
theorem pq_inv {S : Rat} (h : 0 < S) : pq S⁻¹ = [.int (S.den : Int), .int S.num] := by
  obtain ⟨h1, h2⟩ := ZD.inv_nd h
  unfold pq
  rw [h1, h2]
def scl (c : Rat) (A : List ((V × PyData) × Rat)) : List ((V × PyData) × Rat) := A.map fun x => (x.1, x.2 * c)
theorem bd60 {q : Rat} (h : ZD.Gd 60 (6 * 10 ^ 12) q) : ZR.Bd 60 q := h.bd (by decide) (by decide) (by decide +kernel)
theorem bd60' {q : Rat} (h : ZD.Gd 60 (10 ^ 12) q) : ZR.Bd 60 q := h.bd (by decide) (by decide) (by decide +kernel)
theorem sml60 {n : Nat} (h : n ≤ 7) : Sml 60 (10 ^ 12) n := by
  refine ⟨by decide, Nat.lt_of_lt_of_le (show 60 < 2 ^ 10 by decide) (Nat.pow_le_pow_right (by decide) (by decide)), ?_⟩
  have : n * 10 ^ 12 * 60 ≤ 7 * 10 ^ 12 * 60 := Nat.mul_le_mul_right _ (Nat.mul_le_mul_right _ h)
  exact Nat.lt_of_le_of_lt this (Nat.lt_of_lt_of_le (show 7 * 10 ^ 12 * 60 < 2 ^ 100 by decide +kernel) (Nat.pow_le_pow_right (by decide) (by decide)))
theorem bd_inv {S : Rat} (h : 0 < S) (b : ZR.Bd 60 S) : ZR.Bd 60 S⁻¹ := by
  obtain ⟨h1, h2⟩ := ZD.inv_nd h
  have bn := b.n
  have bd := b.d
  unfold ZR.Sz at bn bd
  refine ⟨by rw [h1]; exact bd, ?_⟩
  have : S⁻¹.den = S.num.natAbs := by omega
  rw [this]
  exact bn
def spScaled : Sp := fun vs H Q _ => vs.length = 2 ∧ ∃ (l w : Addr) (L : List Rw) (W : Rat), vs = [.ref l, .ref w] ∧ H l = some (.lst (rv L)) ∧ RowsL H L ∧ L ≠ [] ∧ L.length ≤ 6 ∧ GL 60 (10 ^ 12) (ab L) ∧ H w = some (.tup (pq W)) ∧ ZD.Gd 60 (6 * 10 ^ 12) W ∧
  ∀ l' H' L', H l' = none → Same H H' → H' l' = some (.lst (rv L')) → RowsL H' L' → ab L' = scl (W * (ZD.sm (ab L))⁻¹) (ab L) → Q (.ref l') H'
abbrev s__law_scaled : Stmt := top 29
theorem sc__law_scaled : FnScope ["_law_rows", "_law_whole", "_law_top", "_law_thing", "_law_share"] ["_law_rows", "_law_whole"] (defScope s__law_scaled) := ⟨rfl, rfl, rfl, by decide +kernel, rfl, by decide +kernel, by decide +kernel⟩
theorem ok__law_scaled {P : Program} {w : World} {K : PySem.W.Frag} {mg : Str → Option Value} {base : Heap} {f : Addr} {fd : FuncData} (F : L2.Fun K "_law_scaled" "_law_scaled" s__law_scaled f fd)
    (C_f_law_mul : Cal P w K mg base "_law_mul" 2 spQMul)
    (C_f_law_sum : Cal P w K mg base "_law_sum" 3 (spSum K)) :
    FnOk P w K mg base (L2.CX P w) 4 f fd ["_law_rows", "_law_whole"] spScaled := by
  refine fnOk_mk F sc__law_scaled (fun vs H Q E h => h.1) (fun cdv A outer s H vs Q E hr h => ?_)
  obtain ⟨_, l, w, L, W, rfl, hl, hR, hne, hlen, hG, hw, gW, k⟩ := h
  have hS : ZD.Gd 60 (6 * 10 ^ 12) (ZD.sm (ab L)) := (gl_sm hG).mono (by rw [ab_len]; exact Nat.mul_le_mul_right _ hlen)
  have S0 : 0 < ZD.sm (ab L) := ZD.sm_gt (fun z => hne (by have := congrArg List.length z; rw [ab_len] at this; exact List.length_eq_zero_iff.mp this)) fun x hx => (hG x hx).1
  refine ⟨_, pss_cons (ps_set (i := 2) sc__law_scaled.nd rfl (Or.inr rfl) (z_callC C_f_law_sum hr passN (pa_cons (pv 0) pa_nil)))
    (pss_one (ps_ret (pe_lc (own := [("_law_thing", 3), ("_law_share", 4)]) (by rfl) sc__law_scaled.nd (pi_any (K := K) rfl (pv 0)) (blkOk_by (N := ["_law_rows", "_law_whole", "_law_top", "_law_thing", "_law_share"]) (sc := defScope s__law_scaled) (by decide +kernel)) (fun _ _ _ _ _ => k_tup (K := K) (n := 2) rfl rfl (pgs_cons (pg_name (i := 3) sc__law_scaled.nd rfl (Or.inl rfl)) (pgs_cons (pg_name (i := 4) sc__law_scaled.nd rfl (Or.inl rfl)) pgs_nil))) (fun _ _ _ _ _ => pts_nil) (fun _ _ _ _ _ => pe_tup (pa_cons (pv 3) (pa_cons (z_callC C_f_law_mul hr passN (pa_cons (z_callC C_f_law_mul hr passN (pa_cons (pv 4) (pa_cons (pv 1) pa_nil))) (pa_cons (pe_tup (pa_cons (pe_ix (k_ixT (K := K) rfl) (pv 2) pe_int (fun _ _ => rfl)) (pa_cons (pe_ix (k_ixT (K := K) rfl) (pv 2) pe_int (fun _ _ => rfl)) pa_nil))) pa_nil))) pa_nil)))))), ?_⟩
  try dsimp only [cxOf]
  walk_at "rd"
  refine ⟨rfl, l, L, 60, 10 ^ 12, rfl, .of hl, hR, hG, sml60 (by omega), fun t H1 s1 et => ?_⟩
  generalize hSe : ZD.sm (ab L) = S at *
  walk_at "rd"
  refine i_lcA (H0 := H1) (fun i ys H2 => Same H1 H2 ∧ ∃ M, ys = rv M ∧ M.length = i ∧ RowsL H2 M ∧ ab M = scl (W * S⁻¹) ((ab L).take i)) (.l (s1 _ _ hl)) (Same.refl _) (fun D H' hD s e o => ⟨s, [], rfl, rfl, fun x hx => absurd hx (by simp), rfl⟩) (fun i ys H2 h => h.1) ?_ ?_
  · rintro i x D ys H2 hD hi eD ⟨s2, M, rfl, hM, hRM, hab⟩
    obtain ⟨y, lt, ey, rfl, hm⟩ := rv_get hi
    obtain ⟨g1, g2, g3⟩ := hR y hm
    walk_at "rd"
    refine i_gtup (.of (s2 _ _ (s1 _ _ g1))) rfl ?_
    walk_at "rd"
    refine ⟨by with_unfolding_all rfl, ?_⟩
    walk_at "rd"
    have gy := (hG _ (List.mem_map.mpr ⟨y, hm, rfl⟩)).2
    have by1 : ZR.Bd 60 y.p := bd60' gy
    have bW := bd60 gW
    refine i_q2 (s2 _ _ (s1 _ _ g2)) (s2 _ _ (s1 _ _ hw)) (by1.mono (by decide)) (bW.mono (by decide)) fun c H3 hc s3 e3 o3 => ?_
    walk_at "rd"
    refine i_p1 (.of (s3 _ _ (s2 _ _ et))) ?_
    walk_at "rd"
    refine i_p0 (.of (s3 _ _ (s2 _ _ et))) ?_
    walk_at "rd"
    refine i_tup1 (Nat.le_of_ble_eq_true rfl) fun c4 H4 hc4 s4 e4 o4 => ?_
    rw [← pq_inv S0] at e4
    walk_at "rd"
    refine i_q2 (s4 _ _ e3) e4 ((by1.mul bW).mono (by decide)) ((bd_inv S0 (bd60 hS)).mono (by decide)) fun c5 H5 hc5 s5 e5 o5 => ?_
    walk_at "rd"
    refine i_tup1 (Nat.le_of_ble_eq_true rfl) fun c6 H6 hc6 s6 e6 o6 => ?_
    have t6 : Same H2 H6 := ((s3.trans s4).trans s5).trans s6
    have eD6 := t6 _ _ eD
    have lM : M.length < 100000 := by omega
    refine i_lcE eD6 (by rw [rv_len]; exact lM) fun H7 e7 o7 => ⟨fun b o eb => ?_, M ++ [⟨c6, c5, y.v, y.d, y.p * W * S⁻¹⟩], ?_, by rw [List.length_append, hM]; rfl, ?_, ?_⟩
    · rw [o7 b (ne_of_none eb hD)]
      exact t6 _ _ (s2 _ _ eb)
    · unfold rv; rw [List.map_append]; rfl
    · have kt : KeepT H6 H7 := .but eD6 (fun _ z => by cases z) o7
      intro x hx
      rcases List.mem_append.mp hx with hx | hx
      · exact hRM.keep ((KeepT.of t6).trans kt) x hx
      · rw [List.mem_singleton.mp hx]
        exact ⟨kt _ _ e6, kt _ _ (s6 _ _ e5), (g3.keep (.of ((s1.trans s2).trans t6))).keep kt⟩
    · rw [← ab_take, ab_snoc lt, ← ey]
      unfold scl at hab ⊢
      rw [List.map_append, ab_take, ← hab]
      unfold ab
      rw [List.map_append]
      have : y.p * W * S⁻¹ = y.p * (W * S⁻¹) := by grind
      rw [this]
      rfl
  · rintro D ys H2 hD eD ⟨s2, M, rfl, hM, hRM, hab⟩
    rw [rv_len] at hab
    have e : (ab L).take L.length = ab L := by rw [← ab_len L, List.take_length]
    rw [e] at hab
    walk_at "rd"
    exact k D H2 M (s1.free hD) (s1.trans s2) eD hRM hab
theorem while_gh {c : TT} {tb : TS} {D : Ends} {σ : L2.St} {H : Hp} (Pv : Nat → L2.St → Hp → Prop) (h0 : ∃ m, Pv m σ H)
    (hs : ∀ m σ H, Pv m σ H → c σ H fun b H1 => if b = true then tb { D with nx := fun σ' H' => ∃ m', m' < m ∧ Pv m' σ' H', ct := fun σ' H' => ∃ m', m' < m ∧ Pv m' σ' H', bk := D.nx } σ H1 else D.nx σ H1)
    (mono : ∀ σ H Q Q', (∀ b H1, Q b H1 → Q' b H1) → c σ H Q → c σ H Q') : tWhile c tb D σ H := by
  refine ⟨Pv, h0, fun m σ H p => mono σ H _ _ (fun b H1 q => ?_) (hs m σ H p)⟩
  cases b with
  | true => exact ⟨_, fun σ' H' h => h, q⟩
  | false => exact q
def KeepP (H H' : Hp) : Prop := ∀ b o, H b = some o → (∀ xs, o ≠ .lst xs) → H' b = some o
theorem KeepP.of {H H' : Hp} (s : Same H H') : KeepP H H' := fun _ _ e _ => s _ _ e
theorem KeepP.trans {H H1 H2 : Hp} (s : KeepP H H1) (t : KeepP H1 H2) : KeepP H H2 := fun _ _ e n => t _ _ (s _ _ e n) n
theorem KeepP.but {H H' : Hp} {p : Addr} {xs : List V} (e : H p = some (.lst xs)) (h : ∀ b, b ≠ p → H' b = H b) : KeepP H H' := fun b o eb n => by
  rw [h b fun z => by rw [z, e] at eb; cases eb; exact n _ rfl]; exact eb
theorem KeepP.t {H H' : Hp} (s : KeepP H H') : KeepT H H' := fun _ _ e => s _ _ e fun _ z => by cases z
theorem IsR.keep {CR a : Addr} {H H' : Hp} {q : Rat} (s : KeepP H H') (h : IsR CR H a q) : IsR CR H' a q := let ⟨dx, e⟩ := h; ⟨dx, s _ _ e fun _ z => by cases z⟩
def RowsP (CR : Addr) (H : Hp) (L : List Rw) : Prop := ∀ x ∈ L, H x.q = some (.tup [x.v, .ref x.r]) ∧ IsR CR H x.r x.p ∧ Th H x.v x.d
theorem RowsP.keep {CR : Addr} {H H' : Hp} {L : List Rw} (s : KeepP H H') (h : RowsP CR H L) : RowsP CR H' L := fun x hx => let ⟨h1, h2, h3⟩ := h x hx; ⟨s.t _ _ h1, h2.keep s, h3.keep s.t⟩
structure Ro where
  q : Addr
  r : Addr
  v1 : V
  v2 : V
  d1 : PyData
  d2 : PyData
  p : Rat
def ov (R : List Ro) : List V := R.map fun x => V.ref x.q
def oab (R : List Ro) : List ((V × PyData) × (V × PyData) × Rat) := R.map fun x => ((x.v1, x.d1), (x.v2, x.d2), x.p)
def RowsO (CR : Addr) (H : Hp) (R : List Ro) : Prop := ∀ x ∈ R, H x.q = some (.tup [x.v1, x.v2, .ref x.r]) ∧ IsR CR H x.r x.p ∧ Th H x.v1 x.d1 ∧ Th H x.v2 x.d2
theorem RowsO.keep {CR : Addr} {H H' : Hp} {R : List Ro} (s : KeepP H H') (h : RowsO CR H R) : RowsO CR H' R := fun x hx => let ⟨h1, h2, h3, h4⟩ := h x hx; ⟨s.t _ _ h1, h2.keep s, h3.keep s.t, h4.keep s.t⟩
def rp (L : List Rw) : List (Addr × Rat) := L.map fun x => (x.r, x.p)
theorem sm_rp (L : List Rw) : ZD.sm (rp L) = ZD.sm (ab L) := by
  induction L with
  | nil => rfl
  | cons x L ih =>
    show ZD.sm ((x.r, x.p) :: rp L) = ZD.sm (((x.v, x.d), x.p) :: ab L)
    rw [ZD.sm_cons, ZD.sm_cons, ih]
theorem gl_rp {D M : Nat} {L : List Rw} (h : GL D M (ab L)) : GL D M (rp L) := fun x hx => by
  obtain ⟨y, hy, rfl⟩ := List.mem_map.mp hx
  exact h ((y.v, y.d), y.p) (List.mem_map.mpr ⟨y, hy, rfl⟩)
theorem rp_len (L : List Rw) : (rp L).length = L.length := by unfold rp; simp
theorem rs_rp {CR : Addr} {H : Hp} {L : List Rw} (h : RowsP CR H L) : RsAt CR H (rp L) := fun x hx => by
  obtain ⟨y, hy, rfl⟩ := List.mem_map.mp hx
  exact (h y hy).2.1
theorem rfs_snoc {L : List Rw} {i : Nat} (lt : i < L.length) : rfs (rp (L.take (i + 1))) = rfs (rp (L.take i)) ++ [V.ref L[i].r] := by
  unfold rfs rp
  rw [List.take_succ_eq_append_getElem lt, List.map_append, List.map_append]
  rfl
theorem oab_snoc (R : List Ro) (x : Ro) : oab (R ++ [x]) = oab R ++ [((x.v1, x.d1), (x.v2, x.d2), x.p)] := by unfold oab; rw [List.map_append]; rfl
theorem ov_snoc (R : List Ro) (x : Ro) : ov (R ++ [x]) = ov R ++ [V.ref x.q] := by unfold ov; rw [List.map_append]; rfl
theorem ov_len (R : List Ro) : (ov R).length = R.length := by unfold ov; simp
theorem oab_len (R : List Ro) : (oab R).length = R.length := by unfold oab; simp
structure DSt (CR : Addr) (H : Hp) (l w : Addr) (R : List Ro) (W : List Rw) : Prop where
  el : H l = some (.lst (ov R))
  ew : H w = some (.lst (rv W.reverse))
  ro : RowsO CR H R
  rw_ : RowsP CR H W
theorem DSt.same {CR : Addr} {H H' : Hp} {l w : Addr} {R : List Ro} {W : List Rw} (h : DSt CR H l w R W) (s : Same H H') : DSt CR H' l w R W := ⟨s _ _ h.el, s _ _ h.ew, h.ro.keep (.of s), h.rw_.keep (.of s)⟩
theorem rv_rev (z : Rw) (W : List Rw) : rv (z :: W).reverse = rv W.reverse ++ [V.ref z.q] := by unfold rv; rw [List.reverse_cons, List.map_append]; rfl
theorem rv_reverse (W : List Rw) : rv W.reverse = (rv W).reverse := by unfold rv; rw [List.map_reverse]
theorem ab_cons (z : Rw) (W : List Rw) : ab (z :: W) = ((z.v, z.d), z.p) :: ab W := rfl
theorem drop_cons {L : List Rw} {i : Nat} (lt : i < L.length) : L.drop i = L[i] :: L.drop (i + 1) := List.drop_eq_getElem_cons lt
/-- what is left goes first -/
def dealS (x : V × PyData) (left : Rat) (xs ys : List ((V × PyData) × Rat)) : List ((V × PyData) × (V × PyData) × Rat) := if left = 0 then ZD.deal xs ys else ZD.deal ((x, left) :: xs) ys
def EShare (CR CX : Addr) (q : Rat) (H : Hp) (E : XK) : Prop := ∀ d r H', Same H H' → H' d = some (.xd [("total", .ref r)]) → IsR CR H' r q → E (.ref CX) (some d) H'
def spDealt (K : PySem.W.Frag) (CR CX : Addr) : Sp := fun vs H Q E => vs.length = 2 ∧ ∃ (a b : Addr) (L1 L2 : List Rw) (D M : Nat), vs = [.ref a, .ref b] ∧ SqA K H a (rv L1) ∧ SqA K H b (rv L2) ∧ RowsP CR H L1 ∧ RowsP CR H L2 ∧ GL D M (ab L1) ∧ GL D M (ab L2) ∧ Sml D M 20 ∧
  L1.length ≤ 6 ∧ L2.length ≤ 6 ∧ (ZD.sm (ab L2) ≠ ZD.sm (ab L1) → (ZD.sm (ab L2)).num.natAbs < 10 ^ 30 ∧ (ZD.sm (ab L2)).den < 10 ^ 30 ∧ EShare CR CX (ZD.sm (ab L2)) H E) ∧
  (ZD.sm (ab L2) = ZD.sm (ab L1) → ∀ l H' R, H l = none → Same H H' → H' l = some (.lst (ov R)) → RowsO CR H' R → oab R = ZD.deal (ab L1) (ab L2) → Q (.ref l) H')
abbrev s_dealt : Stmt := top 18
theorem sc_dealt : FnScope ["first", "second", "wanted", "_", "share", "rows", "waiting", "thing", "left", "other", "most", "part"] ["first", "second"] (defScope s_dealt) := ⟨rfl, rfl, rfl, by decide +kernel, rfl, by decide +kernel, by decide +kernel⟩
theorem ok_dealt {P : Program} {w : World} {K : PySem.W.Frag} {mg : Str → Option Value} {base : Heap} {CR CX : Addr} {f : Addr} {fd : FuncData} (F : L2.Fun K "dealt" "dealt" s_dealt f fd)
    (C_b_list : mg "list" = none)
    (C_c_Ratio : ClO K CR)
    (C_f_total : Cal P w K mg base "total" 7 (spTotal K CR))
    (C_m_Ratio_under : CalM P w K mg base CR "under" 1 (spRUnder CR))
    (C_na_Ratio_bottom : NoAttr K CR "bottom")
    (C_na_Ratio_top : NoAttr K CR "top")
    (C_ne_Ratio : NeC K CR)
    (C_o_Ratio_bool : CalO P w K mg base CR "__bool__" 1 (spRBool CR))
    (C_o_Ratio_eq : CalO P w K mg base CR "__eq__" 1 (spREq K CR))
    (C_o_Ratio_sub : CalO P w K mg base CR "__sub__" 6 (spR2 CR (· - ·)))
    (C_x_BadShares : CalX P w K mg base "BadShares" CX 6 ["self", "total"] (spX1 K CX "total" (GRat CR))) :
    FnOk P w K mg base (L2.CX P w) 8 f fd ["first", "second"] (spDealt K CR CX) := by
  refine fnOk_mk F sc_dealt (fun vs H Q E h => h.1) (fun cdv A outer s H vs Q E hr h => ?_)
  obtain ⟨_, a, b, L1, L2, D, M, rfl, h1, h2, R1, R2, G1, G2, hs, l1, l2, kE, kO⟩ := h
  have hs1 : ∀ {n}, n ≤ 20 → Sml D M n := fun hn => ⟨hs.1, hs.2.1, Nat.lt_of_le_of_lt (Nat.mul_le_mul_right D (Nat.mul_le_mul_right M hn)) hs.2.2⟩
  refine ⟨_, pss_cons (ps_set (i := 2) sc_dealt.nd rfl (Or.inl rfl) (z_callC C_f_total hr passN (pa_cons (pe_lc (own := [("_", 3), ("share", 4)]) (by rfl) sc_dealt.nd (pi_any (K := K) rfl (pv 1)) (blkOk_by (N := ["first", "second", "wanted", "_", "share", "rows", "waiting", "thing", "left", "other", "most", "part"]) (sc := defScope s_dealt) (by decide +kernel)) (fun _ _ _ _ _ => k_tup (K := K) (n := 2) rfl rfl (pgs_cons (pg_name (i := 3) sc_dealt.nd rfl (Or.inl rfl)) (pgs_cons (pg_name (i := 4) sc_dealt.nd rfl (Or.inl rfl)) pgs_nil))) (fun _ _ _ _ _ => pts_nil) (fun _ _ _ _ _ => pv 4)) pa_nil)))
    (pss_cons (ps_if (pt_cmpR (z_neO C_o_Ratio_eq C_ne_Ratio hr) (pv 2) (z_callC C_f_total hr passN (pa_cons (pe_lc (own := [("_", 3), ("share", 4)]) (by rfl) sc_dealt.nd (pi_any (K := K) rfl (pv 0)) (blkOk_by (N := ["first", "second", "wanted", "_", "share", "rows", "waiting", "thing", "left", "other", "most", "part"]) (sc := defScope s_dealt) (by decide +kernel)) (fun _ _ _ _ _ => k_tup (K := K) (n := 2) rfl rfl (pgs_cons (pg_name (i := 3) sc_dealt.nd rfl (Or.inl rfl)) (pgs_cons (pg_name (i := 4) sc_dealt.nd rfl (Or.inl rfl)) pgs_nil))) (fun _ _ _ _ _ => pts_nil) (fun _ _ _ _ _ => pv 4)) pa_nil)) (nomark _)) (pss_one (ps_raise rfl (takes_of rfl rfl rfl rfl) (z_mkX C_x_BadShares hr (pa_cons (pv 2) pa_nil)))) (pss_nil))
    (pss_cons (ps_set (i := 5) sc_dealt.nd rfl (Or.inl rfl) (pe_lst pa_nil))
    (pss_cons (ps_set (i := 6) sc_dealt.nd rfl (Or.inl rfl) (pe_callTy (k_listA (K := K) rfl) (by rfl) C_b_list (by decide +kernel) (pa_cons (pe_revA (K := K) rfl (pv 1)) pa_nil)))
    (pss_cons (ps_for (passes_of rfl) rfl (pi_any (K := K) rfl (pv 0)) (k_tup (K := K) (n := 2) rfl rfl (pgs_cons (pg_name (i := 7) sc_dealt.nd rfl (Or.inl rfl)) (pgs_cons (pg_name (i := 4) sc_dealt.nd rfl (Or.inl rfl)) pgs_nil))) (pss_cons (ps_set (i := 8) sc_dealt.nd rfl (Or.inl rfl) (pv 4))
    (pss_one (ps_while (passes_of rfl) (z_truO C_o_Ratio_bool hr (pv 8) (by intro _; rfl)) (pss_cons (ps_asg (pe_bm0 PySem.F.plainAttrs_list PySem.F.slot_list_pop PySem.F.type_list_pop mt_pop (pv 6)) (k_tup (K := K) (n := 2) rfl rfl (pgs_cons (pg_name (i := 9) sc_dealt.nd rfl (Or.inl rfl)) (pgs_cons (pg_name (i := 10) sc_dealt.nd rfl (Or.inl rfl)) pgs_nil))))
    (pss_cons (ps_set (i := 11) sc_dealt.nd rfl (Or.inl rfl) (pe_ifExp (pt_val (z_methC (pv 10) C_c_Ratio.toCls C_m_Ratio_under hr passN (pa_cons (pv 8) pa_nil))) (pv 10) (pv 8)))
    (pss_cons (ps_expr (pe_bm PySem.F.plainAttrs_list PySem.F.slot_list_append PySem.F.type_list_append mt_append (pv 5) (pa_cons (pe_tup (pa_cons (pv 7) (pa_cons (pv 9) (pa_cons (pv 11) pa_nil)))) pa_nil)))
    (pss_cons (ps_set (i := 8) sc_dealt.nd rfl (Or.inl rfl) (pe_op (z_op C_o_Ratio_sub hr) (pv 8) (pv 11)))
    (pss_one (ps_if (pt_cmpR (z_neO C_o_Ratio_eq C_ne_Ratio hr) (pv 11) (pv 10) (nomark _)) (pss_one (ps_expr (pe_bm PySem.F.plainAttrs_list PySem.F.slot_list_append PySem.F.type_list_append mt_append (pv 6) (pa_cons (pe_tup (pa_cons (pv 9) (pa_cons (pe_op (z_op C_o_Ratio_sub hr) (pv 10) (pv 11)) pa_nil))) pa_nil)))) (pss_nil)))))))))))
    (pss_one (ps_ret (pv 5))))))), ?_⟩
  try dsimp only [cxOf]
  walk_at "rd"
  refine i_lcA (H0 := H) (fun i ys H2 => Same H H2 ∧ ys = rfs (rp (L2.take i))) h2 (Same.refl _) (fun D H' hD s e o => ⟨s, rfl⟩) (fun i ys H2 h => h.1) ?_ ?_
  · rintro i x D' ys H2 hD hi eD ⟨s2, rfl⟩
    obtain ⟨y, lt, ey, rfl, hm⟩ := rv_get hi
    obtain ⟨g1, g2, g3⟩ := R2 y hm
    walk_at "rd"
    refine i_gtup (.of (s2 _ _ g1)) rfl ?_
    walk_at "rd"
    refine ⟨by with_unfolding_all rfl, ?_⟩
    walk_at "rd"
    have ln : (rfs (rp (L2.take i))).length < 100000 := by unfold rfs rp; simp; omega
    refine i_lcE eD ln fun H7 e7 o7 => ⟨fun b o eb => ?_, ?_⟩
    · rw [o7 b (ne_of_none eb hD)]
      exact s2 _ _ eb
    · rw [rfs_snoc lt, ← ey]
  rintro D1 ys H1 hD1 eD1 ⟨s1, rfl⟩
  rw [rv_len, List.take_length] at eD1
  walk_at "rd"
  refine ⟨rfl, D1, rp L2, D, M, rfl, .of eD1, rs_rp (R2.keep (.of s1)), gl_rp G2, hs1 (by rw [rp_len]; omega), fun wt H2 hwt s2 ewt => ?_⟩
  rw [sm_rp] at ewt
  have t2 := s1.trans s2
  walk_at "rd"
  refine i_lcA (H0 := H) (fun i ys H3 => Same H2 H3 ∧ ys = rfs (rp (L1.take i))) h1 t2 (fun D H' hD s e o => ⟨s, rfl⟩) (fun i ys H3 h => t2.trans h.1) ?_ ?_
  · rintro i x D' ys H3 hD hi eD ⟨s3, rfl⟩
    obtain ⟨y, lt, ey, rfl, hm⟩ := rv_get hi
    obtain ⟨g1, g2, g3⟩ := R1 y hm
    walk_at "rd"
    refine i_gtup (.of (s3 _ _ (t2 _ _ g1))) rfl ?_
    walk_at "rd"
    refine ⟨by with_unfolding_all rfl, ?_⟩
    walk_at "rd"
    have ln : (rfs (rp (L1.take i))).length < 100000 := by unfold rfs rp; simp; omega
    refine i_lcE eD ln fun H7 e7 o7 => ⟨fun b o eb => ?_, ?_⟩
    · rw [o7 b (ne_of_none eb hD)]
      exact s3 _ _ eb
    · rw [rfs_snoc lt, ← ey]
  rintro D2 ys H3 hD2 eD2 ⟨s3, rfl⟩
  rw [rv_len, List.take_length] at eD2
  have t3 := t2.trans s3
  walk_at "rd"
  refine ⟨rfl, D2, rp L1, D, M, rfl, .of eD2, rs_rp (R1.keep (.of t3)), gl_rp G1, hs1 (by rw [rp_len]; omega), fun w1 H4 hw1 s4 ew1 => ?_⟩
  rw [sm_rp] at ew1
  have t4 := t3.trans s4
  have ewt4 : IsR CR H4 wt (ZD.sm (ab L2)) := (ewt.mono s3).mono s4
  walk_at "rd"
  refine i_Rne ewt4 ew1 fun H5 s5 => ?_
  have t5 := t4.trans s5
  walk_at "rd"
  refine i_ndec (fun ne => ?_) (fun eqS => ?_)
  · walk_at "rd"
    obtain ⟨k1, k2, k3⟩ := kE ne
    refine i_mkX1 (fun H' s => ⟨wt, _, rfl, (ewt4.mono s5).mono s, k1, k2⟩) fun d H' hd s e' => ?_
    exact k3 d wt H' (t5.trans s) e' ((ewt4.mono s5).mono s)
  have kO := kO eqS
  walk_at "rd"
  refine i_lst1 (Nat.le_of_ble_eq_true rfl) fun l H6 hl s6 e6 o6 => ?_
  have t6 := t5.trans s6
  walk_at "rd"
  refine i_revA (sameA t6 h2) fun q7 H7 hq7 s7 e7 o7 => ?_
  walk_at "rd"
  refine i_listA e7 fun w H8 hw s8 e8 o8 => ?_
  have t7 := t6.trans s7
  have t8 := t7.trans s8
  have lH : H l = none := t5.free hl
  have wH : H w = none := t7.free hw
  have wl : w ≠ l := fun z => by rw [z, s7 _ _ e6] at hw; cases hw
  have el8 : H8 l = some (.lst (ov [])) := s8 _ _ (s7 _ _ e6)
  rw [← rv_reverse] at e8
  walk_at "rd"
  have bdL : ∀ {q : Rat}, ZD.Gd D M q → ZR.Bd 2000 q := fun g => ((hs1 (n := 1) (by decide)).bd (m := 1) (by rw [Nat.one_mul]; exact g) (Nat.le_refl _)).mono (by decide)
  have dlen := ZD.deal_len _ (ab L1) (ab L2) (Nat.le_refl _)
  rw [ab_len, ab_len] at dlen
  generalize hT : ZD.deal (ab L1) (ab L2) = T at *
  refine i_forA (H0 := H) (fun i σ H' => ∃ v3 v4 v7 v8 v9 v10 v11 R W, σ = [some (.ref a), some (.ref b), some (.ref wt), v3, v4, some (.ref l), some (.ref w), v7, v8, v9, v10, v11] ∧ Same H H' ∧ DSt CR H' l w R W ∧
      oab R ++ ZD.deal (ab (L1.drop i)) (ab W) = T ∧ ZD.sm (ab W) = ZD.sm (ab (L1.drop i)) ∧ GL D M (ab W) ∧ W.length ≤ 6) h1
    ⟨_, _, _, _, _, _, _, [], L2, rfl, t8, ⟨el8, e8, fun x hx => absurd hx (by simp), R2.keep (.of t8)⟩, by rw [List.drop_zero, hT]; rfl, by rw [List.drop_zero]; exact eqS, G2, l2⟩ (fun i σ H' => fun ⟨_, _, _, _, _, _, _, _, _, _, s, _⟩ => s) ?_ ?_
  · rintro i x σ Ha hi ⟨v3, v4, v7, v8, v9, v10, v11, R, W, rfl, sa, st, hd, hsm, hG, hW⟩
    obtain ⟨y, lt, ey, rfl, hm⟩ := rv_get hi
    obtain ⟨g1, g2, g3⟩ := R1 y hm
    have gy := G1 ((y.v, y.d), y.p) (List.mem_map.mpr ⟨y, hm, rfl⟩)
    have dc := drop_cons lt
    rw [← ey] at dc
    rw [dc, ab_cons] at hd hsm
    rw [ZD.sm_cons] at hsm
    have grest : ∀ x ∈ ab (L1.drop (i + 1)), 0 < x.2 := fun x hx => by
      obtain ⟨u, hu, rfl⟩ := List.mem_map.mp hx
      exact (G1 ((u.v, u.d), u.p) (List.mem_map.mpr ⟨u, List.mem_of_mem_drop hu, rfl⟩)).1
    generalize hXs : ab (L1.drop (i + 1)) = Xs at *
    walk_at "rd"
    refine i_gtup (.of (sa _ _ g1)) rfl ?_
    walk_at "rd"
    refine while_gh (fun m σ H' => ∃ c left R W v9 v10 v11, σ = [some (.ref a), some (.ref b), some (.ref wt), v3, some (.ref y.r), some (.ref l), some (.ref w), some y.v, some (.ref c), v9, v10, v11] ∧ Same H H' ∧ DSt CR H' l w R W ∧ IsR CR H' c left ∧ ZD.Gd D M left ∧
        oab R ++ dealS (y.v, y.d) left Xs (ab W) = T ∧ ZD.sm (ab W) = left + ZD.sm Xs ∧ GL D M (ab W) ∧ W.length ≤ 6 ∧ m = W.length + (if left = 0 then 0 else 1))
      ⟨_, y.r, y.p, R, W, _, _, _, rfl, sa, st, g2.keep (.of sa), gy.2, ?_, hsm, hG, hW, rfl⟩ ?_ ?_
    · unfold dealS
      rw [if_neg (by have := gy.1; simp only at this; grind)]
      exact hd
    · rintro m σ Hb ⟨c, left, R, W, v9, v10, v11, rfl, sb, st, hc, gl, hd, hsm, hG, hW, rfl⟩
      obtain ⟨dx, ec⟩ := id hc
      walk_at "rd"
      refine ⟨c, dx, _, rfl, ec, rfl, c, left, rfl, hc, fun H9 s9 => ⟨_, rfl, ?_⟩⟩
      refine i_dec (fun z => ?_) (fun z => ?_)
      · have lp : 0 < left := by have := gl.lo; grind
        have wne : W ≠ [] := fun e => by
          rw [e] at hsm
          have h0 : ZD.sm (ab ([] : List Rw)) = 0 := rfl
          rw [h0] at hsm
          have := ZD.sm_pos grest
          grind
        obtain ⟨u, W, rfl⟩ : ∃ u W', W = u :: W' := by
          cases W with
          | nil => exact absurd rfl wne
          | cons u W' => exact ⟨u, W', rfl⟩
        have st9 := st.same s9
        have ew9 := st9.ew
        rw [rv_rev] at ew9
        have gu := hG ((u.v, u.d), u.p) List.mem_cons_self
        have gW : GL D M (ab W) := fun x hx => hG x (List.mem_cons_of_mem _ hx)
        rw [ab_cons, ZD.sm_cons] at hsm
        rw [ab_cons] at hd
        unfold dealS at hd
        rw [if_neg z] at hd
        have hRl : R.length ≤ 12 := by
          have := congrArg List.length hd
          rw [List.length_append, oab_len] at this
          omega
        walk_at "rd"
        refine ⟨tyL ew9, ?_⟩
        refine i_popR ew9 fun H10 e10 o10 => ?_
        have kp10 : KeepP H9 H10 := .but ew9 o10
        have ro10 := st9.ro.keep kp10
        have rw10 := st9.rw_.keep kp10
        obtain ⟨u1, u2, u3⟩ := rw10 u List.mem_cons_self
        have rW10 : RowsP CR H10 W := fun x hx => rw10 x (List.mem_cons_of_mem _ hx)
        have el10 : H10 l = some (.lst (ov R)) := by rw [o10 l (Ne.symm wl)]; exact st9.el
        have hc10 := (hc.mono s9).keep kp10
        have g310 : Th H10 y.v y.d := ((g3.keep (.of sb)).keep (.of s9)).keep kp10.t
        have sH10 : Same H H10 := fun b o e => by rw [o10 b (ne_of_none e wH)]; exact s9 _ _ (sb _ _ e)
        walk_at "rd"
        refine i_gtup (.of u1) rfl ?_
        walk_at "rd"
        refine i_under0 u2 ?_
        walk_at "rd"
        refine i_under u2 hc10 (bdL gu.2) (bdL gl) fun H11 s11 => ?_
        refine ⟨_, rfl, ?_⟩
        refine i_dec (fun lt2 => ?_) (fun ge2 => ?_)
        · walk_at "rd"
          have el11 := s11 _ _ el10
          refine ⟨tyL el11, ?_⟩
          walk_at "rd"
          refine i_tup1 (Nat.le_of_ble_eq_true rfl) fun p12 H12 hp12 s12 e12 o12 => ?_
          walk_at "rd"
          have el12 := s12 _ _ el11
          refine i_app (xs := ov R) el12 (by rw [ov_len]; omega) fun H13 e13 o13 => ?_
          have kp13 : KeepP H12 H13 := .but el12 o13
          have kp : KeepP H10 H13 := ((KeepP.of s11).trans (.of s12)).trans kp13
          walk_at "rd"
          refine i_R2 (hc10.keep kp) (u2.keep kp) (bdL gl) (bdL gu.2) fun c14 H14 hc14 s14 e14 => ?_
          walk_at "rd"
          refine i_Rne ((u2.keep kp).mono s14) ((u2.keep kp).mono s14) fun H15 s15 => ?_
          walk_at "rd"
          refine i_ndec (fun ne => absurd rfl ne) (fun _ => ?_)
          walk_at "rd"
          have s1315 := s14.trans s15
          have pl : p12 ≠ l := fun z => by rw [z, el11] at hp12; cases hp12
          refine ⟨_, ?_, c14, left - u.p, R ++ [⟨p12, u.r, y.v, u.v, y.d, u.d, u.p⟩], W, _, _, _, rfl, fun b o e => ?_, ⟨?_, ?_, ?_, (rW10.keep kp).keep (.of s1315)⟩, e14.mono s15, gl.sub gu.2 (by grind), ?_, ?_, gW, by simp only [List.length_cons] at hW; omega, rfl⟩
          · rw [if_neg z, List.length_cons]
            split <;> omega
          · refine s1315 _ _ ?_
            rw [o13 b (ne_of_none e lH)]
            exact s12 _ _ (s11 _ _ (sH10 _ _ e))
          · rw [ov_snoc]
            exact s1315 _ _ e13
          · refine s1315 _ _ ?_
            rw [o13 w wl]
            exact s12 _ _ (s11 _ _ e10)
          · intro x hx
            rcases List.mem_append.mp hx with hx | hx
            · exact (ro10.keep kp).keep (.of s1315) x hx
            · rw [List.mem_singleton.mp hx]
              exact ⟨s1315 _ _ (by rw [o13 p12 pl]; exact e12), ((u2.keep kp).mono s1315), ((g310.keep kp.t).keep (.of s1315)), ((u3.keep kp.t).keep (.of s1315))⟩
          · unfold dealS
            rw [if_neg (by grind), oab_snoc, List.append_assoc]
            rw [ZD.deal_gt (by grind)] at hd
            exact hd
          · have := hsm
            simp only at this
            grind
        · walk_at "rd"
          have el11 := s11 _ _ el10
          refine ⟨tyL el11, ?_⟩
          walk_at "rd"
          refine i_tup1 (Nat.le_of_ble_eq_true rfl) fun p12 H12 hp12 s12 e12 o12 => ?_
          walk_at "rd"
          have el12 := s12 _ _ el11
          refine i_app (xs := ov R) el12 (by rw [ov_len]; omega) fun H13 e13 o13 => ?_
          have kp13 : KeepP H12 H13 := .but el12 o13
          have kp : KeepP H10 H13 := ((KeepP.of s11).trans (.of s12)).trans kp13
          walk_at "rd"
          refine i_R2 (hc10.keep kp) (hc10.keep kp) (bdL gl) (bdL gl) fun c14 H14 hc14 s14 e14 => ?_
          have z0 : left - left = 0 := by grind
          rw [z0] at e14
          walk_at "rd"
          refine i_Rne ((hc10.keep kp).mono s14) ((u2.keep kp).mono s14) fun H15 s15 => ?_
          have s1315 := s14.trans s15
          have pl : p12 ≠ l := fun z => by rw [z, el11] at hp12; cases hp12
          have ew15 : H15 w = some (.lst (rv W.reverse)) := s1315 _ _ (by rw [o13 w wl]; exact s12 _ _ (s11 _ _ e10))
          have el15 : H15 l = some (.lst (ov (R ++ [⟨p12, c, y.v, u.v, y.d, u.d, left⟩]))) := by rw [ov_snoc]; exact s1315 _ _ e13
          have sH15 : Same H H15 := fun b o e => s1315 _ _ (by rw [o13 b (ne_of_none e lH)]; exact s12 _ _ (s11 _ _ (sH10 _ _ e)))
          have rW15 : RowsP CR H15 W := (rW10.keep kp).keep (.of s1315)
          have rO15 : RowsO CR H15 (R ++ [⟨p12, c, y.v, u.v, y.d, u.d, left⟩]) := by
            intro x hx
            rcases List.mem_append.mp hx with hx | hx
            · exact (ro10.keep kp).keep (.of s1315) x hx
            · rw [List.mem_singleton.mp hx]
              exact ⟨s1315 _ _ (by rw [o13 p12 pl]; exact e12), ((hc10.keep kp).mono s1315), ((g310.keep kp.t).keep (.of s1315)), ((u3.keep kp.t).keep (.of s1315))⟩
          have u215 := (u2.keep kp).mono s1315
          have u315 := (u3.keep kp.t).keep (.of s1315)
          have hc15 := (hc10.keep kp).mono s1315
          walk_at "rd"
          refine i_ndec (fun ne => ?_) (fun eq => ?_)
          · walk_at "rd"
            refine ⟨tyL ew15, ?_⟩
            walk_at "rd"
            refine i_R2 u215 hc15 (bdL gu.2) (bdL gl) fun c16 H16 hc16 s16 e16 => ?_
            walk_at "rd"
            refine i_tup1 (Nat.le_of_ble_eq_true rfl) fun p17 H17 hp17 s17 e17 o17 => ?_
            walk_at "rd"
            have s1517 := s16.trans s17
            have ew17 := s1517 _ _ ew15
            refine i_app (xs := rv W.reverse) ew17 (by unfold rv; simp only [List.length_cons] at hW; simp; omega) fun H18 e18 o18 => ?_
            have kp18 : KeepP H17 H18 := .but ew17 o18
            have kp1518 : KeepP H15 H18 := (KeepP.of s1517).trans kp18
            walk_at "rd"
            have pw : p17 ≠ w := fun z => by rw [z, s16 _ _ ew15] at hp17; cases hp17
            refine ⟨_, ?_, c14, 0, R ++ [⟨p12, c, y.v, u.v, y.d, u.d, left⟩], ⟨p17, c16, u.v, u.d, u.p - left⟩ :: W, _, _, _, rfl, fun b o e => ?_, ⟨?_, ?_, rO15.keep kp1518, ?_⟩, ((e14.mono s15).keep kp1518), ZD.Gd.zero, ?_, ?_, ?_, hW, rfl⟩
            · rw [if_neg z, if_pos rfl, List.length_cons, List.length_cons]
              omega
            · rw [o18 b (ne_of_none e wH)]
              exact s1517 _ _ (sH15 _ _ e)
            · rw [o18 l (Ne.symm wl)]
              exact s1517 _ _ el15
            · rw [rv_rev]
              exact e18
            · intro x hx
              rcases List.mem_cons.mp hx with rfl | hx
              · exact ⟨by show H18 p17 = _; rw [o18 p17 pw]; exact e17, (e16.mono s17).keep kp18, u315.keep kp1518.t⟩
              · exact rW15.keep kp1518 x hx
            · unfold dealS
              rw [if_pos rfl, oab_snoc, List.append_assoc, ab_cons]
              rw [ZD.deal_lt (by grind)] at hd
              exact hd
            · rw [ab_cons, ZD.sm_cons]
              have := hsm
              simp only at this ⊢
              grind
            · intro x hx
              rcases List.mem_cons.mp hx with rfl | hx
              · have g0 := gu.1
                exact ⟨by show 0 < u.p - left; simp only at g0; grind, gu.2.sub gl (by simp only; grind)⟩
              · exact gW x hx
          · walk_at "rd"
            refine ⟨_, ?_, c14, 0, R ++ [⟨p12, c, y.v, u.v, y.d, u.d, left⟩], W, _, _, _, rfl, sH15, ⟨el15, ew15, rO15, rW15⟩, e14.mono s15, ZD.Gd.zero, ?_, ?_, gW, by simp only [List.length_cons] at hW; omega, rfl⟩
            · rw [if_neg z, if_pos rfl, List.length_cons]
              omega
            · unfold dealS
              rw [if_pos rfl, oab_snoc, List.append_assoc]
              rw [← eq, ZD.deal_eq] at hd
              exact hd
            · have := hsm
              simp only at this
              grind
      · have z : left = 0 := by grind
        walk_at "rd"
        subst z
        refine ⟨_, _, _, _, _, _, _, R, W, rfl, sb.trans s9, st.same s9, ?_, ?_, hG, hW⟩
        · unfold dealS at hd
          rw [if_pos rfl] at hd
          exact hd
        · rw [hsm]; grind
    · intro σ H Q Q' kk h
      obtain ⟨v, ev, a, dx, fs, e1, e2, e3, a2, p, e4, e5, q⟩ := h
      exact ⟨v, ev, a, dx, fs, e1, e2, e3, a2, p, e4, e5, fun H' s' => let ⟨r, e6, q'⟩ := q H' s'; ⟨r, e6, kk _ _ q'⟩⟩
  · rintro σ Ha ⟨v3, v4, v7, v8, v9, v10, v11, R, W, rfl, sa, st, hd, hsm, hG, hW⟩
    rw [rv_len, List.drop_length] at hd
    have e0 : ab ([] : List Rw) = [] := rfl
    rw [e0, ZD.deal_nil, List.append_nil] at hd
    walk_at "rd"
    exact kO l Ha R lH sa st.el st.ro hd
def dQ (p : Rat) : PyData := .tuple [.int p.num, .int (p.den : Int)]
def dRow (x : (V × PyData) × (V × PyData) × Rat) : PyData := .tuple [x.1.2, x.2.1.2, dQ x.2.2]
def dTold (T : List ((V × PyData) × (V × PyData) × Rat)) : PyData := .list [.str "told", .list (T.map dRow)]
def dShr (q : Rat) : PyData := .list [.str "shares", dQ q]
def dueD (A B : List ((V × PyData) × Rat)) : PyData := if ZD.sm A = ZD.sm B then dTold (ZD.deal A B) else dShr (ZD.sm B)
/-- the law's rows of what goes together -/
def RowsQ (H : Hp) (R : List Ro) : Prop := ∀ x ∈ R, H x.q = some (.tup [x.v1, x.v2, .ref x.r]) ∧ H x.r = some (.tup (pq x.p)) ∧ Th H x.v1 x.d1 ∧ Th H x.v2 x.d2
theorem RowsQ.keep {H H' : Hp} {R : List Ro} (s : KeepT H H') (h : RowsQ H R) : RowsQ H' R := fun x hx => let ⟨h1, h2, h3, h4⟩ := h x hx; ⟨s _ _ h1, s _ _ h2, h3.keep s, h4.keep s⟩
theorem dp_pq {K : PySem.W.Frag} {H : Hp} {a : Addr} {p : Rat} (e : H a = some (.tup (pq p))) : Dp K H (.ref a) (dQ p) := .tup (.of e) (.cons (.int _) (.cons (.int _) .nil))
theorem dp_rows {K : PySem.W.Frag} {H : Hp} : ∀ {R : List Ro}, RowsQ H R → DpAll K H (ov R) ((oab R).map dRow)
  | [], _ => .nil
  | x :: R, h => by
    obtain ⟨h1, h2, h3, h4⟩ := h x List.mem_cons_self
    exact .cons (.tup (.of h1) (.cons h3.dp (.cons h4.dp (.cons (dp_pq h2) .nil)))) (dp_rows fun y hy => h y (List.mem_cons_of_mem _ hy))
theorem neg_pq (p : Rat) : [V.int (-p.num), V.int (p.den : Int)] = pq (-p) := by
  unfold pq
  rw [Rat.neg_num, Rat.neg_den]
theorem eqv_dQ (p q : Rat) : PyData.eqv (dQ p) (dQ q) = decide (p = q) := by
  show ((p.num == q.num) && (((p.den : Int) == (q.den : Int)) && true)) = _
  have e := ZR.eq_nd p q
  by_cases h : p = q
  · subst h
    simp
  · rw [decide_eq_false h]
    have h2 := fun z => h (e.mp z)
    by_cases h1 : p.num = q.num
    · have h3 : ¬ (p.den : Int) = (q.den : Int) := fun z => h2 ⟨h1, z⟩
      rw [show ((p.den : Int) == (q.den : Int)) = false by simpa using h3]
      simp
    · rw [show (p.num == q.num) = false by simpa using h1]
      rfl
def Lay (n : Nat) (d : PyData) : Prop := d.canLay0 = true ∧ d.depth ≤ n
theorem lay_all {n : Nat} : ∀ {ds : List PyData}, (∀ d ∈ ds, Lay n d) → PyData.canLayAll0 ds = true ∧ PyData.depthAll ds ≤ n
  | [], _ => ⟨rfl, Nat.zero_le _⟩
  | d :: ds, h => by
    obtain ⟨h1, h2⟩ := h d List.mem_cons_self
    obtain ⟨h3, h4⟩ := lay_all fun e he => h e (List.mem_cons_of_mem _ he)
    refine ⟨?_, ?_⟩
    · unfold PyData.canLayAll0
      rw [h1, h3]
      rfl
    · unfold PyData.depthAll
      omega
theorem lay_list {n : Nat} {ds : List PyData} (h : ∀ d ∈ ds, Lay n d) : Lay (n + 1) (.list ds) := by
  obtain ⟨h1, h2⟩ := lay_all h
  exact ⟨by unfold PyData.canLay0; exact h1, by unfold PyData.depth; omega⟩
theorem lay_tup {n : Nat} {ds : List PyData} (h : ∀ d ∈ ds, Lay n d) : Lay (n + 1) (.tuple ds) := by
  obtain ⟨h1, h2⟩ := lay_all h
  exact ⟨by unfold PyData.canLay0; exact h1, by unfold PyData.depth; omega⟩
theorem Lay.mono {n m : Nat} {d : PyData} (h : Lay n d) (l : n ≤ m) : Lay m d := ⟨h.1, Nat.le_trans h.2 l⟩
theorem Lay.shaped {n : Nat} {d : PyData} (h : Lay n d) (hn : n ≤ 64) : SeqAt.shaped d = true := by
  unfold SeqAt.shaped
  rw [h.1, decide_eq_true (Nat.le_trans h.2 hn)]
  rfl
theorem lay_int (n : Int) : Lay 0 (.int n) := ⟨rfl, Nat.le_refl _⟩
theorem lay_str {z : Str} (h : PyData.strOk z = true) : Lay 0 (.str z) := ⟨by unfold PyData.canLay0; exact h, Nat.le_refl _⟩
theorem lay_dQ (p : Rat) : Lay 1 (dQ p) := lay_tup fun d hd => by
  rcases List.mem_cons.mp hd with rfl | hd
  · exact lay_int _
  · rw [List.mem_singleton.mp hd]; exact lay_int _
theorem Th.lay {H : Hp} {v : V} {d : PyData} (h : Th H v d) : Lay 1 d := by
  cases h with
  | non => exact ⟨rfl, Nat.zero_le _⟩
  | int i => exact (lay_int i).mono (by decide)
  | str z h => exact (lay_str h).mono (by decide)
  | tup1 z h e => exact lay_tup fun d hd => by rw [List.mem_singleton.mp hd]; exact lay_str h
  | tup2 z i h e =>
    refine lay_tup fun d hd => ?_
    rcases List.mem_cons.mp hd with rfl | hd
    · exact lay_str h
    · rw [List.mem_singleton.mp hd]; exact lay_int _
mutual
theorem eqv_refl : ∀ d : PyData, d.canLay0 = true → PyData.eqv d d = true
  | .none, _ => rfl
  | .bool a, _ => by show (a == a) = true; simp
  | .int a, _ => by show (a == a) = true; simp
  | .str a, _ => by show (a == a) = true; simp
  | .list xs, h => by
    unfold PyData.canLay0 at h
    show PyData.eqvAll xs xs = true
    exact eqv_reflAll xs h
  | .tuple xs, h => by
    unfold PyData.canLay0 at h
    show PyData.eqvAll xs xs = true
    exact eqv_reflAll xs h
  | .dict _, h => by unfold PyData.canLay0 at h; cases h
theorem eqv_reflAll : ∀ ds : List PyData, PyData.canLayAll0 ds = true → PyData.eqvAll ds ds = true
  | [], _ => rfl
  | d :: ds, h => by
    unfold PyData.canLayAll0 at h
    rw [Bool.and_eq_true] at h
    show (PyData.eqv d d && PyData.eqvAll ds ds) = true
    rw [eqv_refl d h.1, eqv_reflAll ds h.2]
    rfl
end
theorem i_nePQ {K : PySem.W.Frag} {H : Hp} {Q : VK} {a b : Addr} {p q : Rat} (ha : H a = some (.tup (pq p))) (hb : H b = some (.tup (pq q))) (h : Q (.bl (!decide (p = q))) H) : rNeD K (.ref a) (.ref b) H Q := by
  refine ⟨_, _, dp_pq ha, dp_pq hb, (lay_dQ p).shaped (by decide), (lay_dQ q).shaped (by decide), ?_⟩
  rw [eqv_dQ]
  exact h
theorem i_lcAD {K : PySem.W.Frag} {σ : L2.St} {H H0 : Hp} {te : TE} {tt : TT} {g : TG} {Q : VK} {a : Addr} {xs : List V} {vs : List Nat} (Pv : Addr → Nat → List V → Hp → Prop) (s : SqA K H0 a xs) (s0 : Same H0 H)
    (h0 : ∀ D H', H D = none → Same H H' → H' D = some (.lst []) → (∀ b, b ≠ D → H' b = H b) → Pv D 0 [] H') (hl : ∀ D i ys H1, Pv D i ys H1 → Same H0 H1)
    (hs : ∀ i x D ys H1, H D = none → xs[i]? = some x → H1 D = some (.lst ys) → Pv D i ys H1 → g x (wipe σ vs) H1 fun σ2 H2 => wipe σ2 vs = wipe σ vs ∧ tt σ2 H2 fun b H3 => if b = true then te σ2 H3 fun y H4 => rLcE D (Pv D) i y H4 else LcS D (Pv D) (i + 1) H3)
    (hd : ∀ D ys H1, H D = none → H1 D = some (.lst ys) → Pv D xs.length ys H1 → Q (.ref D) H1) : rLcA K g tt te vs σ Q (.ref a) H := by
  refine ⟨a, xs, rfl, .intro s s0 fun J G w hG D hD => lc_it w (LcS D (Pv D)) ⟨[], upd_same, h0 D _ hD (fun b o e => by rw [upd_ne (ne_of_none e hD)]; exact e) upd_same (fun b hb => upd_ne hb)⟩ ?_ ?_ ?_⟩
  · rintro i H' _ ⟨ys, _, p⟩
    exact hG _ (hl D i ys H' p)
  · rintro i x H1 H2 hi ⟨ys, hD', p⟩ ⟨rfl, e⟩
    exact hs i x D ys _ hD e hD' p
  · rintro H' ⟨ys, hD', p⟩
    exact hd D ys H' hD hD' p
theorem i_capS {t : TS} {D : Ends} {σ : L2.St} {H : Hp} (P : L2.St → Hp → Prop) (hP : ∀ σ H, P σ H → D.nx σ H) (k : (∀ σ H, P σ H → D.nx σ H) → t D σ H) : t D σ H := k hP
def RowsM (H : Hp) (L : List Rw) : Prop := ∀ x ∈ L, H x.q = some (.lst [x.v, .ref x.r]) ∧ H x.r = some (.tup (pq x.p)) ∧ Th H x.v x.d
theorem RowsM.same {H H' : Hp} {L : List Rw} (s : Same H H') (h : RowsM H L) : RowsM H' L := fun x hx => let ⟨h1, h2, h3⟩ := h x hx; ⟨s _ _ h1, s _ _ h2, h3.keep (.of s)⟩
theorem RowsM.but {H H' : Hp} {L : List Rw} {p : Addr} {xs : List V} (e : H p = some (.lst xs)) (o : ∀ b, b ≠ p → H' b = H b) (n : ∀ x ∈ L, x.q ≠ p) (h : RowsM H L) : RowsM H' L := fun x hx => by
  obtain ⟨h1, h2, h3⟩ := h x hx
  have kt : KeepT H H' := .but e (fun _ z => by cases z) o
  exact ⟨by rw [o _ (n x hx)]; exact h1, kt _ _ h2, h3.keep kt⟩
theorem rowsM_dp {K : PySem.W.Frag} {H : Hp} : ∀ {L : List Rw}, RowsM H L → DpAll K H (rv L) (L.map fun x => PyData.list [x.d, dQ x.p])
  | [], _ => .nil
  | x :: L, h => by
    obtain ⟨h1, h2, h3⟩ := h x List.mem_cons_self
    exact .cons (.lst (.of h1) (.cons h3.dp (.cons (dp_pq h2) .nil))) (rowsM_dp fun y hy => h y (List.mem_cons_of_mem _ hy))
theorem i_neNil {K : PySem.W.Frag} {H : Hp} {Q : VK} {a b : Addr} {L : List Rw} (ha : H a = some (.lst (rv L))) (hb : H b = some (.lst [])) (hr : RowsM H L) (h : Q (.bl (!decide (L = []))) H) : rNeD K (.ref a) (.ref b) H Q := by
  refine ⟨_, _, .lst (.of ha) (rowsM_dp hr), .lst (.of hb) .nil, (lay_list (n := 2) fun d hd => ?_).shaped (by decide), by decide, ?_⟩
  · obtain ⟨x, hx, rfl⟩ := List.mem_map.mp hd
    refine lay_list fun d hd => ?_
    rcases List.mem_cons.mp hd with rfl | hd
    · exact (hr x hx).2.2.lay
    · rw [List.mem_singleton.mp hd]; exact lay_dQ _
  · have e : PyData.eqv (.list (L.map fun x => PyData.list [x.d, dQ x.p])) (.list []) = decide (L = []) := by
      cases L with
      | nil => rfl
      | cons x L => rfl
    rw [e]
    exact h
theorem cut_from (xs : List V) (j : Nat) (h : j ≤ xs.length) : cutV xs (some (j : Int)) none = xs.drop j := by
  have e : HT.sIx xs.length 0 (some (j : Int)) = j := by
    unfold HT.sIx
    simp
    split <;> omega
  have e2 : HT.sIx xs.length xs.length none = xs.length := rfl
  unfold cutV
  rw [e, e2]
  exact List.take_of_length_le (by rw [List.length_drop]; omega)
theorem i_slFrom {K : PySem.W.Frag} {H : Hp} {Q : VK} {a : Addr} {xs : List V} {j : Nat} (s : SqL K H a xs) (hj : j ≤ xs.length) (h : ∀ p H', H p = none → Same H H' → H' p = some (.lst (xs.drop j)) → (∀ b, b ≠ p → H' b = H b) → Q (.ref p) H') : rSlL K (.ref a) (some (j : Int)) none H Q := by
  refine ⟨a, xs, rfl, s, fun p hp => ?_⟩
  rw [cut_from xs j hj]
  exact h p _ hp (same_new hp) upd_same fun b hb => upd_ne hb
/-- the law's state -/
structure LS (H0 H : Hp) (a b f : Addr) (ML MR : List Rw) (R : List Ro) : Prop where
  ea : H a = some (.lst (rv ML))
  eb : H b = some (.lst (rv MR))
  ef : H f = some (.lst (ov R))
  ml : RowsM H ML
  mr : RowsM H MR
  ro : RowsQ H R
  nd : ((ML ++ MR).map (·.q)).Nodup
  ne : ∀ x ∈ ML ++ MR, x.q ≠ a ∧ x.q ≠ b ∧ x.q ≠ f ∧ H0 x.q = none
  fa : f ≠ a ∧ f ≠ b ∧ H0 f = none
  sm : Same H0 H
theorem LS.same {H0 H H' : Hp} {a b f : Addr} {ML MR : List Rw} {R : List Ro} (h : LS H0 H a b f ML MR R) (s : Same H H') : LS H0 H' a b f ML MR R :=
  ⟨s _ _ h.ea, s _ _ h.eb, s _ _ h.ef, h.ml.same s, h.mr.same s, h.ro.keep (.of s), h.nd, h.ne, h.fa, h.sm.trans s⟩
theorem LS.setA {H0 H H' : Hp} {a b f r1 : Addr} {x : Rw} {ML MR : List Rw} {R : List Ro} {p1 : Rat} (h : LS H0 H a b f (x :: ML) MR R) (e : H' x.q = some (.lst [x.v, .ref r1])) (o : ∀ c, c ≠ x.q → H' c = H c) (er : H r1 = some (.tup (pq p1))) :
    LS H0 H' a b f (⟨x.q, r1, x.v, x.d, p1⟩ :: ML) MR R := by
  obtain ⟨g1, g2, g3⟩ := h.ml x List.mem_cons_self
  obtain ⟨n1, n2, n3, n4⟩ := h.ne x List.mem_cons_self
  have kt : KeepT H H' := .but g1 (fun _ z => by cases z) o
  have nd := h.nd
  rw [List.cons_append, List.map_cons, List.nodup_cons] at nd
  have nx : ∀ u ∈ ML ++ MR, u.q ≠ x.q := fun u hu z => nd.1 (List.mem_map.mpr ⟨u, hu, z⟩)
  refine ⟨by rw [o a (Ne.symm n1)]; exact h.ea, by rw [o b (Ne.symm n2)]; exact h.eb, by rw [o f (Ne.symm n3)]; exact h.ef, ?_, RowsM.but g1 o (fun u hu => nx u (List.mem_append_right _ hu)) h.mr, h.ro.keep kt, h.nd, ?_, h.fa, fun c oc ec => by rw [o c (ne_of_none ec n4)]; exact h.sm _ _ ec⟩
  · intro u hu
    rcases List.mem_cons.mp hu with rfl | hu
    · exact ⟨e, kt _ _ er, g3.keep kt⟩
    · exact RowsM.but g1 o (fun u hu => nx u (List.mem_append_left _ hu)) (fun u hu => h.ml u (List.mem_cons_of_mem _ hu)) u hu
  · intro u hu
    rcases List.mem_cons.mp hu with rfl | hu
    · exact ⟨n1, n2, n3, n4⟩
    · exact h.ne u (List.mem_cons_of_mem _ hu)
theorem LS.swap {H0 H : Hp} {a b f : Addr} {ML MR : List Rw} {R : List Ro} (h : LS H0 H a b f ML MR R) : LS H0 H b a f MR ML R :=
  ⟨h.eb, h.ea, h.ef, h.mr, h.ml, h.ro, by rw [List.map_append]; have := h.nd; rw [List.map_append] at this; exact (List.perm_append_comm.nodup_iff).mp this,
    fun u hu => let ⟨h1, h2, h3, h4⟩ := h.ne u (List.mem_append.mpr ((List.mem_append.mp hu).symm)); ⟨h2, h1, h3, h4⟩, ⟨h.fa.2.1, h.fa.1, h.fa.2.2⟩, h.sm⟩
theorem LS.setB {H0 H H' : Hp} {a b f r1 : Addr} {y : Rw} {ML MR : List Rw} {R : List Ro} {p1 : Rat} (h : LS H0 H a b f ML (y :: MR) R) (e : H' y.q = some (.lst [y.v, .ref r1])) (o : ∀ c, c ≠ y.q → H' c = H c) (er : H r1 = some (.tup (pq p1))) :
    LS H0 H' a b f ML (⟨y.q, r1, y.v, y.d, p1⟩ :: MR) R := (h.swap.setA e o er).swap
theorem LS.dropA {H0 H H' : Hp} {a b f p : Addr} {ML MR : List Rw} {R : List Ro} {j : Nat} (h : LS H0 H a b f ML MR R) (hp : H p = none) (s : Same H H') (e : H' p = some (.lst ((rv ML).drop j))) : LS H0 H' p b f (ML.drop j) MR R := by
  have sub : ((ML.drop j ++ MR).map (·.q)).Sublist ((ML ++ MR).map (·.q)) := List.Sublist.map _ (List.Sublist.append (List.drop_sublist j ML) (List.Sublist.refl _))
  have mem : ∀ u ∈ ML.drop j ++ MR, u ∈ ML ++ MR := fun u hu => (List.Sublist.append (List.drop_sublist j ML) (List.Sublist.refl _)).subset hu
  refine ⟨by rw [e]; unfold rv; rw [List.map_drop], s _ _ h.eb, s _ _ h.ef, fun u hu => (h.ml.same s) u (List.mem_of_mem_drop hu), h.mr.same s, h.ro.keep (.of s), h.nd.sublist sub, fun u hu => ?_, ⟨(fun z => by rw [← z, h.ef] at hp; cases hp), h.fa.2.1, h.fa.2.2⟩, h.sm.trans s⟩
  obtain ⟨h1, h2, h3, h4⟩ := h.ne u (mem u hu)
  refine ⟨fun z => ?_, h2, h3, h4⟩
  rcases List.mem_append.mp (mem u hu) with hm | hm
  · rw [← z, (h.ml u hm).1] at hp; cases hp
  · rw [← z, (h.mr u hm).1] at hp; cases hp
theorem LS.dropB {H0 H H' : Hp} {a b f p : Addr} {ML MR : List Rw} {R : List Ro} {j : Nat} (h : LS H0 H a b f ML MR R) (hp : H p = none) (s : Same H H') (e : H' p = some (.lst ((rv MR).drop j))) : LS H0 H' a p f ML (MR.drop j) R := (h.swap.dropA hp s e).swap
theorem LS.app {H0 H H' : Hp} {a b f : Addr} {ML MR : List Rw} {R : List Ro} {x : Ro} (h : LS H0 H a b f ML MR R) (e : H' f = some (.lst (ov R ++ [V.ref x.q]))) (o : ∀ c, c ≠ f → H' c = H c) (hx : RowsQ H [x]) : LS H0 H' a b f ML MR (R ++ [x]) := by
  have kt : KeepT H H' := .but h.ef (fun _ z => by cases z) o
  refine ⟨by rw [o a (Ne.symm h.fa.1)]; exact h.ea, by rw [o b (Ne.symm h.fa.2.1)]; exact h.eb, by rw [e]; unfold ov; rw [List.map_append]; rfl, RowsM.but h.ef o (fun u hu => (h.ne u (List.mem_append_left _ hu)).2.2.1) h.ml, RowsM.but h.ef o (fun u hu => (h.ne u (List.mem_append_right _ hu)).2.2.1) h.mr, ?_, h.nd, h.ne, h.fa,
    fun c oc ec => by rw [o c (ne_of_none ec h.fa.2.2)]; exact h.sm _ _ ec⟩
  intro u hu
  rcases List.mem_append.mp hu with hu | hu
  · exact (h.ro.keep kt) u hu
  · exact (hx.keep kt) u hu
def spDue (K : PySem.W.Frag) : Sp := fun vs H Q _ => vs.length = 2 ∧ ∃ (a b : Addr) (L1 L2 : List Rw) (D M : Nat), vs = [.ref a, .ref b] ∧ H a = some (.lst (rv L1)) ∧ H b = some (.lst (rv L2)) ∧ RowsL H L1 ∧ RowsL H L2 ∧ GL D M (ab L1) ∧ GL D M (ab L2) ∧ Sml D M 20 ∧
  L1.length ≤ 6 ∧ L2.length ≤ 6 ∧ ∀ l H', Same H H' → Dp K H' (.ref l) (dueD (ab L1) (ab L2)) → (∃ xs, H' l = some (.lst xs) ∧ ((ZD.sm (ab L1) = ZD.sm (ab L2) ∧ ∃ r ys, xs = [.str "told", .ref r] ∧ H' r = some (.lst ys) ∧ ys.length ≤ L1.length + L2.length - 1) ∨ (ZD.sm (ab L1) ≠ ZD.sm (ab L2) ∧ ∃ r, xs = [.str "shares", .ref r]))) → Q (.ref l) H'
abbrev s__law_due : Stmt := top 31
theorem sc__law_due : FnScope ["_law_first", "_law_second", "_law_left", "_law_right", "_law_row_here", "_law_found", "_law_turn", "_law_part", "_law_side"] ["_law_first", "_law_second"] (defScope s__law_due) := ⟨rfl, rfl, rfl, by decide +kernel, rfl, by decide +kernel, by decide +kernel⟩
theorem ok__law_due {P : Program} {w : World} {K : PySem.W.Frag} {mg : Str → Option Value} {base : Heap} {f : Addr} {fd : FuncData} (F : L2.Fun K "_law_due" "_law_due" s__law_due f fd)
    (C_b_int : mg "int" = none)
    (C_b_len : mg "len" = none)
    (C_b_list : mg "list" = none)
    (C_b_range : mg "range" = none)
    (C_f_law_add : Cal P w K mg base "_law_add" 2 spQAdd)
    (C_f_law_less : Cal P w K mg base "_law_less" 1 spLess)
    (C_f_law_sum : Cal P w K mg base "_law_sum" 3 (spSum K)) :
    FnOk P w K mg base (L2.CX P w) 4 f fd ["_law_first", "_law_second"] (spDue K) := by
  refine fnOk_mk F sc__law_due (fun vs H Q E h => h.1) (fun cdv A outer s H vs Q E hr h => ?_)
  obtain ⟨_, a, b, L1, L2, D, M, rfl, h1, h2, R1, R2, G1, G2, hs, l1, l2, k⟩ := h
  have hs1 : ∀ {n}, n ≤ 20 → Sml D M n := fun hn => ⟨hs.1, hs.2.1, Nat.lt_of_le_of_lt (Nat.mul_le_mul_right D (Nat.mul_le_mul_right M hn)) hs.2.2⟩
  have bdL : ∀ {q : Rat}, ZD.Gd D M q → ZR.Bd 1000 q := fun g => ((hs1 (n := 1) (by decide)).bd (m := 1) (by rw [Nat.one_mul]; exact g) (Nat.le_refl _))
  refine ⟨_, pss_cons (ps_if (pt_cmpR (k_neD (K := K) rfl hr.units) (z_callC C_f_law_sum hr passN (pa_cons (pv 0) pa_nil)) (z_callC C_f_law_sum hr passN (pa_cons (pv 1) pa_nil)) (nomark _)) (pss_one (ps_ret (pe_lst (pa_cons pe_str (pa_cons (z_callC C_f_law_sum hr passN (pa_cons (pv 1) pa_nil)) pa_nil))))) (pss_nil))
    (pss_cons (ps_par (i := 2) (j := 3) (by rfl) sc__law_due.nd rfl rfl (by decide) rfl rfl (pa_cons (pe_lc (own := [("_law_row_here", 4)]) (by rfl) sc__law_due.nd (pi_any (K := K) rfl (pv 0)) (blkOk_by (N := ["_law_first", "_law_second", "_law_left", "_law_right", "_law_row_here", "_law_found", "_law_turn", "_law_part", "_law_side"]) (sc := defScope s__law_due) (by decide +kernel)) (fun _ _ _ _ _ => pg_name (i := 4) sc__law_due.nd rfl (Or.inl rfl)) (fun _ _ _ _ _ => pts_nil) (fun _ _ _ _ _ => pe_callTy (k_listA (K := K) rfl) (by rfl) C_b_list (by decide +kernel) (pa_cons (pv 4) pa_nil))) (pa_cons (pe_lc (own := [("_law_row_here", 4)]) (by rfl) sc__law_due.nd (pi_any (K := K) rfl (pv 1)) (blkOk_by (N := ["_law_first", "_law_second", "_law_left", "_law_right", "_law_row_here", "_law_found", "_law_turn", "_law_part", "_law_side"]) (sc := defScope s__law_due) (by decide +kernel)) (fun _ _ _ _ _ => pg_name (i := 4) sc__law_due.nd rfl (Or.inl rfl)) (fun _ _ _ _ _ => pts_nil) (fun _ _ _ _ _ => pe_callTy (k_listA (K := K) rfl) (by rfl) C_b_list (by decide +kernel) (pa_cons (pv 4) pa_nil))) pa_nil)) (by rfl))
    (pss_cons (ps_set (i := 5) sc__law_due.nd rfl (Or.inl rfl) (pe_lst pa_nil))
    (pss_cons (ps_for (passes_of rfl) rfl (pi_range1 (by rfl) C_b_range (pa_cons (pe_op op_add (pe_callB (k_len (K := K) rfl) (by rfl) C_b_len (by decide +kernel) (pa_cons (pv 0) pa_nil)) (pe_callB (k_len (K := K) rfl) (by rfl) C_b_len (by decide +kernel) (pa_cons (pv 1) pa_nil))) pa_nil)) (pg_name (i := 6) sc__law_due.nd rfl (Or.inl rfl)) (pss_one (ps_if (PW.pt (pw_and (pt_cmpR (k_neD (K := K) rfl hr.units) (pv 2) (pe_lst pa_nil) (nomark _)) (pw_and1 (pt_cmpR (k_neD (K := K) rfl hr.units) (pv 3) (pe_lst pa_nil) (nomark _))))) (pss_cons (ps_set (i := 7) sc__law_due.nd rfl (Or.inl rfl) (pe_ifExp (pt_val (z_callC C_f_law_less hr passN (pa_cons (pe_ix ix_list (pe_ix ix_list (pv 2) pe_int (fun _ _ => rfl)) pe_int (fun _ _ => rfl)) (pa_cons (pe_ix ix_list (pe_ix ix_list (pv 3) pe_int (fun _ _ => rfl)) pe_int (fun _ _ => rfl)) pa_nil)))) (pe_ix ix_list (pe_ix ix_list (pv 2) pe_int (fun _ _ => rfl)) pe_int (fun _ _ => rfl)) (pe_ix ix_list (pe_ix ix_list (pv 3) pe_int (fun _ _ => rfl)) pe_int (fun _ _ => rfl))))
    (pss_cons (ps_expr (pe_bm PySem.F.plainAttrs_list PySem.F.slot_list_append PySem.F.type_list_append mt_append (pv 5) (pa_cons (pe_tup (pa_cons (pe_ix ix_list (pe_ix ix_list (pv 2) pe_int (fun _ _ => rfl)) pe_int (fun _ _ => rfl)) (pa_cons (pe_ix ix_list (pe_ix ix_list (pv 3) pe_int (fun _ _ => rfl)) pe_int (fun _ _ => rfl)) (pa_cons (pv 7) pa_nil)))) pa_nil)))
    (pss_cons (ps_for (passes_of rfl) rfl (pi_any (K := K) rfl (pe_lst (pa_cons (pv 2) (pa_cons (pv 3) pa_nil)))) (pg_name (i := 8) sc__law_due.nd rfl (Or.inl rfl)) (pss_one (ps_asg (z_callC C_f_law_add hr passN (pa_cons (pe_ix ix_list (pe_ix ix_list (pv 8) pe_int (fun _ _ => rfl)) pe_int (fun _ _ => rfl)) (pa_cons (pe_tup (pa_cons (pe_un un_neg (pe_ix ix_tup (pv 7) pe_int (fun _ _ => rfl))) (pa_cons (pe_ix ix_tup (pv 7) pe_int (fun _ _ => rfl)) pa_nil))) pa_nil))) (pg_sub (pe_ix ix_list (pv 8) pe_int (fun _ _ => rfl)) pe_int set_list))))
    (pss_cons (ps_set (i := 2) sc__law_due.nd rfl (Or.inl rfl) (pe_slice sl_list (pv 2) (po_some (pe_callTy call_int1 (by rfl) C_b_int (by decide +kernel) (pa_cons (pe_cmpR op_eq (pe_ix ix_tup (pe_ix ix_list (pe_ix ix_list (pv 2) pe_int (fun _ _ => rfl)) pe_int (fun _ _ => rfl)) pe_int (fun _ _ => rfl)) pe_int (nomark _)) pa_nil))) po_none))
    (pss_one (ps_set (i := 3) sc__law_due.nd rfl (Or.inl rfl) (pe_slice sl_list (pv 3) (po_some (pe_callTy call_int1 (by rfl) C_b_int (by decide +kernel) (pa_cons (pe_cmpR op_eq (pe_ix ix_tup (pe_ix ix_list (pe_ix ix_list (pv 3) pe_int (fun _ _ => rfl)) pe_int (fun _ _ => rfl)) pe_int (fun _ _ => rfl)) pe_int (nomark _)) pa_nil))) po_none))))))) (pss_nil))))
    (pss_one (ps_ret (pe_lst (pa_cons pe_str (pa_cons (pv 5) pa_nil)))))))), ?_⟩
  try dsimp only [cxOf]
  walk_at "rd"
  refine ⟨rfl, a, L1, D, M, rfl, .of h1, R1, G1, hs1 (by omega), fun c1 H1 s1 e1 => ?_⟩
  walk_at "rd"
  refine ⟨rfl, b, L2, D, M, rfl, .of (s1 _ _ h2), R2.keep (.of s1), G2, hs1 (by omega), fun c2 H2 s2 e2 => ?_⟩
  have hT : dueD (ab L1) (ab L2) = if ZD.sm (ab L1) = ZD.sm (ab L2) then dTold (ZD.deal (ab L1) (ab L2)) else dShr (ZD.sm (ab L2)) := rfl
  walk_at "rd"
  refine i_nePQ (s2 _ _ e1) e2 ?_
  walk_at "rd"
  refine i_ndec (fun ne => ?_) (fun eq => ?_)
  · walk_at "rd"
    refine ⟨rfl, b, L2, D, M, rfl, .of ((s1.trans s2) _ _ h2), R2.keep (.of (s1.trans s2)), G2, hs1 (by omega), fun c3 H3 s3 e3 => ?_⟩
    walk_at "rd"
    refine i_lst1 (Nat.le_of_ble_eq_true rfl) fun q H4 hq s4 e4 o4 => ?_
    refine k q H4 (((s1.trans s2).trans s3).trans s4) ?_ ⟨_, e4, .inr ⟨ne, _, rfl⟩⟩
    rw [hT, if_neg ne]
    exact .lst (.of e4) (.cons (.str _) (.cons (dp_pq (s4 _ _ e3)) .nil))
  walk_at "rd"
  have t2 := s1.trans s2
  refine i_lcAD (H0 := H) (fun D' i ys H3 => Same H2 H3 ∧ ∃ M, ys = rv M ∧ M.length = i ∧ RowsM H3 M ∧ (M.map (·.q)).Nodup ∧ (∀ x ∈ M, H2 x.q = none ∧ x.q ≠ D') ∧ ab M = (ab L1).take i) (.l h1) t2
    (fun D' H' hD s e o => ⟨s, [], rfl, rfl, fun x hx => absurd hx (by simp), .nil, fun x hx => absurd hx (by simp), rfl⟩) (fun D' i ys H3 h => t2.trans h.1) ?_ ?_
  · rintro i x D' ys H3 hD hi eD ⟨s3, M, rfl, hM, hRM, hnd, hne, hab⟩
    obtain ⟨y, lt, ey, rfl, hm⟩ := rv_get hi
    obtain ⟨g1, g2, g3⟩ := R1 y hm
    walk_at "rd"
    refine ⟨by with_unfolding_all rfl, ?_⟩
    walk_at "rd"
    refine i_listA (.t (s3 _ _ (t2 _ _ g1))) fun q4 H4 hq4 s4 e4 o4 => ?_
    have t4 := t2.trans (s3.trans s4)
    refine i_lcE (s4 _ _ eD) (by rw [rv_len]; omega) fun H7 e7 o7 => ⟨fun b o eb => ?_, M ++ [⟨q4, y.r, y.v, y.d, y.p⟩], ?_, by rw [List.length_append, hM]; rfl, ?_, ?_, ?_, ?_⟩
    · rw [o7 b (ne_of_none eb hD)]
      exact s4 _ _ (s3 _ _ eb)
    · unfold rv; rw [List.map_append]; rfl
    · have qD : q4 ≠ D' := fun z => by rw [z, eD] at hq4; cases hq4
      refine RowsM.but (s4 _ _ eD) o7 (fun x hx => ?_) fun x hx => ?_
      · rcases List.mem_append.mp hx with hx | hx
        · exact (hne x hx).2
        · rw [List.mem_singleton.mp hx]; exact qD
      · rcases List.mem_append.mp hx with hx | hx
        · exact (hRM.same s4) x hx
        · rw [List.mem_singleton.mp hx]
          exact ⟨e4, t4 _ _ g2, g3.keep (.of t4)⟩
    · rw [List.map_append, List.nodup_append]
      refine ⟨hnd, by simp, fun u hu v hv => ?_⟩
      obtain ⟨x, hx, rfl⟩ := List.mem_map.mp hu
      have : v = q4 := by simpa using hv
      rw [this]
      exact fun z => by rw [← z, (hRM x hx).1] at hq4; cases hq4
    · intro x hx
      rcases List.mem_append.mp hx with hx | hx
      · exact hne x hx
      · rw [List.mem_singleton.mp hx]
        exact ⟨s3.free hq4, fun z => by rw [show D' = q4 from z.symm, hq4] at eD; cases eD⟩
    · rw [← ab_take, ab_snoc lt, ← ey]
      unfold ab at hab ⊢
      rw [List.map_append, List.map_take, ← hab]
      rfl
  rintro a1 ys H3 ha1 ea1 ⟨s3, ML, rfl, hML, rML, nML, fML, aML⟩
  rw [rv_len, ← ab_len L1, List.take_length] at aML
  walk_at "rd"
  have t3 := t2.trans s3
  refine i_lcAD (H0 := H) (fun D' i ys H4 => Same H3 H4 ∧ ∃ M, ys = rv M ∧ M.length = i ∧ RowsM H4 M ∧ (M.map (·.q)).Nodup ∧ (∀ x ∈ M, H3 x.q = none ∧ x.q ≠ D') ∧ ab M = (ab L2).take i) (.l h2) t3
    (fun D' H' hD s e o => ⟨s, [], rfl, rfl, fun x hx => absurd hx (by simp), .nil, fun x hx => absurd hx (by simp), rfl⟩) (fun D' i ys H4 h => t3.trans h.1) ?_ ?_
  · rintro i x D' ys H4 hD hi eD ⟨s4, M, rfl, hM, hRM, hnd, hne, hab⟩
    obtain ⟨y, lt, ey, rfl, hm⟩ := rv_get hi
    obtain ⟨g1, g2, g3⟩ := R2 y hm
    walk_at "rd"
    refine ⟨by with_unfolding_all rfl, ?_⟩
    walk_at "rd"
    refine i_listA (.t (s4 _ _ (t3 _ _ g1))) fun q4 H5 hq4 s5 e5 o5 => ?_
    have t5 := t3.trans (s4.trans s5)
    refine i_lcE (s5 _ _ eD) (by rw [rv_len]; omega) fun H7 e7 o7 => ⟨fun b o eb => ?_, M ++ [⟨q4, y.r, y.v, y.d, y.p⟩], ?_, by rw [List.length_append, hM]; rfl, ?_, ?_, ?_, ?_⟩
    · rw [o7 b (ne_of_none eb hD)]
      exact s5 _ _ (s4 _ _ eb)
    · unfold rv; rw [List.map_append]; rfl
    · have qD : q4 ≠ D' := fun z => by rw [z, eD] at hq4; cases hq4
      refine RowsM.but (s5 _ _ eD) o7 (fun x hx => ?_) fun x hx => ?_
      · rcases List.mem_append.mp hx with hx | hx
        · exact (hne x hx).2
        · rw [List.mem_singleton.mp hx]; exact qD
      · rcases List.mem_append.mp hx with hx | hx
        · exact (hRM.same s5) x hx
        · rw [List.mem_singleton.mp hx]
          exact ⟨e5, t5 _ _ g2, g3.keep (.of t5)⟩
    · rw [List.map_append, List.nodup_append]
      refine ⟨hnd, by simp, fun u hu v hv => ?_⟩
      obtain ⟨x, hx, rfl⟩ := List.mem_map.mp hu
      have : v = q4 := by simpa using hv
      rw [this]
      exact fun z => by rw [← z, (hRM x hx).1] at hq4; cases hq4
    · intro x hx
      rcases List.mem_append.mp hx with hx | hx
      · exact hne x hx
      · rw [List.mem_singleton.mp hx]
        exact ⟨s4.free hq4, fun z => by rw [show D' = q4 from z.symm, hq4] at eD; cases eD⟩
    · rw [← ab_take, ab_snoc lt, ← ey]
      unfold ab at hab ⊢
      rw [List.map_append, List.map_take, ← hab]
      rfl
  rintro b1 ys H4 hb1 eb1 ⟨s4, MR, rfl, hMR, rMR, nMR, fMR, aMR⟩
  rw [rv_len, ← ab_len L2, List.take_length] at aMR
  rw [rv_len] at hML hMR
  walk_at "rd"
  refine i_lst1 (Nat.le_of_ble_eq_true rfl) fun f0 H5 hf s5 e5 o5 => ?_
  walk_at "rd"
  have t5 := (t3.trans s4).trans s5
  refine i_lenL (.of (t5 _ _ h1)) ?_
  rw [rv_len]
  walk_at "rd"
  refine i_lenL (.of (t5 _ _ h2)) ?_
  rw [rv_len]
  walk_at "rd"
  have dlen := ZD.deal_len _ (ab L1) (ab L2) (Nat.le_refl _)
  rw [ab_len, ab_len] at dlen
  rw [if_pos eq] at hT
  generalize hTT : ZD.deal (ab L1) (ab L2) = T at *
  refine i_forR (n := L1.length + L2.length) (by omega) (by omega) (fun i σ H' => ∃ a1 b1 ML MR R v4 u v w, σ = [some (.ref a), some (.ref b), some (.ref a1), some (.ref b1), v4, some (.ref f0), u, v, w] ∧ LS H H' a1 b1 f0 ML MR R ∧ oab R ++ ZD.deal (ab ML) (ab MR) = T ∧
      GL D M (ab ML) ∧ GL D M (ab MR) ∧ (ML = [] ∨ MR = [] ∨ ML.length + MR.length + i ≤ L1.length + L2.length) ∧ ML.length ≤ 6 ∧ MR.length ≤ 6)
    ⟨a1, b1, ML, MR, [], _, _, _, _, rfl, ⟨s5 _ _ (s4 _ _ ea1), s5 _ _ eb1, e5, (rML.same s4).same s5, rMR.same s5, fun x hx => absurd hx (by simp), ?_, ?_, ⟨?_, ?_, (t3.trans s4).free hf⟩, t5⟩, by rw [aML, aMR]; exact hTT, by rw [aML]; exact G1, by rw [aMR]; exact G2, .inr (.inr (by omega)), by omega, by omega⟩ ?_ ?_
  · rw [List.map_append, List.nodup_append]
    refine ⟨nML, nMR, fun u hu v hv => ?_⟩
    obtain ⟨x, hx, rfl⟩ := List.mem_map.mp hu
    obtain ⟨y, hy, rfl⟩ := List.mem_map.mp hv
    exact fun z => by have := (fMR y hy).1; rw [← z, (rML x hx).1] at this; cases this
  · intro x hx
    rcases List.mem_append.mp hx with hx | hx
    · refine ⟨(fML x hx).2, fun z => ?_, fun z => ?_, t2.free (fML x hx).1⟩
      · rw [← z, (rML x hx).1] at hb1; cases hb1
      · rw [← z, s4 _ _ (rML x hx).1] at hf; cases hf
    · refine ⟨fun z => ?_, (fMR x hx).2, fun z => ?_, t3.free (fMR x hx).1⟩
      · have := (fMR x hx).1; rw [z, ea1] at this; cases this
      · rw [← z, (rMR x hx).1] at hf; cases hf
  · exact fun z => by rw [z, s4 _ _ ea1] at hf; cases hf
  · exact fun z => by rw [z, eb1] at hf; cases hf
  · clear ea1 eb1 hML rML nML fML aML hMR rMR nMR fMR aMR ha1 hb1 s3 s4 s5 t3 t5 e5 o5 hf
    rintro i σ H6 hi ⟨a1, b1, ML, MR, R, v4, u, v, w, rfl, st, hd, GA, GB, hc, lA, lB⟩
    walk_at "rd"
    refine i_lst1 (Nat.le_of_ble_eq_true rfl) fun z1 H7 hz1 s7 e7 o7 => ?_
    have st7 := st.same s7
    refine i_neNil st7.ea e7 st7.ml ?_
    walk_at "rd"
    refine i_ndec (fun nA => ?_) (fun eA => ?_)
    rotate_left
    · walk_at "rd"
      refine ⟨a1, b1, ML, MR, R, _, _, _, _, rfl, st7, hd, GA, GB, .inl eA, lA, lB⟩
    walk_at "rd"
    refine i_lst1 (Nat.le_of_ble_eq_true rfl) fun z2 H8 hz2 s8 e8 o8 => ?_
    have st8 := st7.same s8
    refine i_neNil st8.eb e8 st8.mr ?_
    refine ⟨_, rfl, ?_⟩
    refine i_ndec (fun nB => ?_) (fun eB => ?_)
    rotate_left
    · walk_at "rd"
      refine ⟨a1, b1, ML, MR, R, _, _, _, _, rfl, st8, hd, GA, GB, .inr (.inl eB), lA, lB⟩
    obtain ⟨x, ML, rfl⟩ : ∃ x M', ML = x :: M' := by
      cases ML with
      | nil => exact absurd rfl nA
      | cons x M' => exact ⟨x, M', rfl⟩
    obtain ⟨y, MR, rfl⟩ : ∃ x M', MR = x :: M' := by
      cases MR with
      | nil => exact absurd rfl nB
      | cons x M' => exact ⟨x, M', rfl⟩
    obtain ⟨x1, x2, x3⟩ := st8.ml x List.mem_cons_self
    obtain ⟨y1, y2, y3⟩ := st8.mr y List.mem_cons_self
    have gx := GA ((x.v, x.d), x.p) List.mem_cons_self
    have gy := GB ((y.v, y.d), y.p) List.mem_cons_self
    refine i_seq ?_
    refine i_capS (t := tAsg _ _) (fun σ H' => ∃ r, σ = [some (.ref a), some (.ref b), some (.ref a1), some (.ref b1), v4, some (.ref f0), some (.int (i : Nat)), some (.ref r), w] ∧ H' = H8 ∧ H8 r = some (.tup (pq (if x.p < y.p then x.p else y.p)))) ?_ fun tail => ?_
    rotate_left
    · walk_at "rd"
      refine i_ix0 (.of st8.ea) ?_
      walk_at "rd"
      refine i_ix1 (.of x1) ?_
      walk_at "rd"
      refine i_ix0 (.of st8.eb) ?_
      walk_at "rd"
      refine i_ix1 (.of y1) ?_
      walk_at "rd"
      refine ⟨rfl, x.r, y.r, x.p, y.p, rfl, x2, y2, (bdL gx.2).mono (by decide), (bdL gy.2).mono (by decide), ?_⟩
      refine ⟨_, rfl, ?_⟩
      refine i_dec (fun lt => ?_) (fun ge => ?_)
      · walk_at "rd"
        refine i_ix0 (.of st8.ea) ?_
        walk_at "rd"
        refine i_ix1 (.of x1) ?_
        exact tail _ _ ⟨x.r, rfl, rfl, by rw [if_pos lt]; exact x2⟩
      · walk_at "rd"
        refine i_ix0 (.of st8.eb) ?_
        walk_at "rd"
        refine i_ix1 (.of y1) ?_
        exact tail _ _ ⟨y.r, rfl, rfl, by rw [if_neg ge]; exact y2⟩
    rintro σ H' ⟨r, rfl, rfl, er⟩
    generalize hm : (if x.p < y.p then x.p else y.p) = m at er
    walk_at "rd"
    refine ⟨tyL st8.ef, ?_⟩
    walk_at "rd"
    refine i_ix0 (.of st8.ea) ?_
    walk_at "rd"
    refine i_ix0 (.of x1) ?_
    walk_at "rd"
    refine i_ix0 (.of st8.eb) ?_
    walk_at "rd"
    refine i_ix0 (.of y1) ?_
    walk_at "rd"
    refine i_tup1 (Nat.le_of_ble_eq_true rfl) fun t9 H9 ht9 s9 e9 o9 => ?_
    walk_at "rd"
    have st9 := st8.same s9
    have hRl : R.length ≤ 12 := by
      have := congrArg List.length hd
      rw [List.length_append, oab_len] at this
      omega
    refine i_app (xs := ov R) st9.ef (by rw [ov_len]; omega) fun H10 e10 o10 => ?_
    have kt10 : KeepT H9 H10 := .but st9.ef (fun _ z => by cases z) o10
    have st10 := st9.app (x := ⟨t9, r, x.v, y.v, x.d, y.d, m⟩) e10 o10 (fun u hu => by
      rw [List.mem_singleton.mp hu]
      exact ⟨e9, s9 _ _ er, x3.keep (.of s9), y3.keep (.of s9)⟩)
    walk_at "rd"
    refine i_lst1 (Nat.le_of_ble_eq_true rfl) fun z3 H11 hz3 s11 e11 o11 => ?_
    have st11 := st10.same s11
    have er11 := s11 _ _ (kt10 _ _ (s9 _ _ er))
    have xz : x.q ≠ z3 := fun z => by rw [← z, (st10.ml x List.mem_cons_self).1] at hz3; cases hz3
    have yz : y.q ≠ z3 := fun z => by rw [← z, (st10.mr y List.mem_cons_self).1] at hz3; cases hz3
    have bm : ZR.Bd 1000 m := by
      rw [← hm]
      split
      · exact bdL gx.2
      · exact bdL gy.2
    generalize hR' : R ++ [(⟨t9, r, x.v, y.v, x.d, y.d, m⟩ : Ro)] = R' at *
    walk_at "rd"
    refine i_forA (H0 := upd (fun _ => none) z3 (.lst [.ref a1, .ref b1])) (fun j σ H' => (∃ w', σ = [some (.ref a), some (.ref b), some (.ref a1), some (.ref b1), v4, some (.ref f0), some (.int (i : Nat)), some (.ref r), w']) ∧ H' z3 = some (.lst [.ref a1, .ref b1]) ∧ H' r = some (.tup (pq m)) ∧
        ∃ x' y' : Rw, (x'.q = x.q ∧ x'.v = x.v ∧ x'.d = x.d ∧ x'.p = if 1 ≤ j then x.p + -m else x.p) ∧ (y'.q = y.q ∧ y'.v = y.v ∧ y'.d = y.d ∧ y'.p = if 2 ≤ j then y.p + -m else y.p) ∧ LS H H' a1 b1 f0 (x' :: ML) (y' :: MR) R')
      (.l upd_same) ⟨⟨_, rfl⟩, e11, er11, x, y, ⟨rfl, rfl, rfl, rfl⟩, ⟨rfl, rfl, rfl, rfl⟩, st11⟩ (fun j σ H' h => fun b o e => by
        by_cases hb : b = z3
        · rw [hb, upd_same] at e
          cases e
          rw [hb]
          exact h.2.1
        · rw [upd_ne hb] at e
          cases e) ?_ ?_
    · rintro j sd σ H12 hj ⟨⟨w', rfl⟩, ez, er12, x', y', ⟨hx1, hx2, hx3, hx4⟩, ⟨hy1, hy2, hy3, hy4⟩, st12⟩
      obtain ⟨u1, u2, u3⟩ := st12.ml x' List.mem_cons_self
      obtain ⟨w1, w2, w3⟩ := st12.mr y' List.mem_cons_self
      match j, hj with
      | 0, hj =>
        cases hj
        have e0 : x'.p = x.p := hx4
        walk_at "rd"
        refine i_ix0 (.of st12.ea) ?_
        walk_at "rd"
        refine i_ix1 (.of u1) ?_
        walk_at "rd"
        refine i_p0 (.of er12) ?_
        walk_at "rd"
        refine i_p1 (.of er12) ?_
        walk_at "rd"
        refine i_tup1 (Nat.le_of_ble_eq_true rfl) fun t13 H13 ht13 s13 e13 o13 => ?_
        rw [neg_pq] at e13
        walk_at "rd"
        refine i_q2 (s13 _ _ u2) e13 (by rw [e0]; exact (bdL gx.2).mono (by decide)) (bm.neg.mono (by decide)) fun c14 H14 hc14 s14 e14 o14 => ?_
        walk_at "rd"
        have st14 := (st12.same s13).same s14
        refine i_ix0 (.of st14.ea) ?_
        walk_at "rd"
        have u14 := s14 _ _ (s13 _ _ u1)
        refine i_setL (j := 1) (ys := [x'.v, .ref c14]) u14 rfl rfl fun H15 e15 o15 => ?_
        have rn : r ≠ x'.q := fun z => by rw [z, u1] at er12; cases er12
        refine ⟨⟨_, rfl⟩, ?_, ?_, ⟨x'.q, c14, x'.v, x'.d, x'.p + -m⟩, y', ⟨hx1, hx2, hx3, by rw [if_pos (by decide)]; show x'.p + -m = _; rw [e0]⟩, ⟨hy1, hy2, hy3, hy4⟩, st14.setA e15 o15 e14⟩
        · rw [o15 z3 (by rw [hx1]; exact Ne.symm xz)]
          exact s14 _ _ (s13 _ _ ez)
        · rw [o15 r rn]
          exact s14 _ _ (s13 _ _ er12)
      | 1, hj =>
        cases hj
        have e0 : y'.p = y.p := hy4
        walk_at "rd"
        refine i_ix0 (.of st12.eb) ?_
        walk_at "rd"
        refine i_ix1 (.of w1) ?_
        walk_at "rd"
        refine i_p0 (.of er12) ?_
        walk_at "rd"
        refine i_p1 (.of er12) ?_
        walk_at "rd"
        refine i_tup1 (Nat.le_of_ble_eq_true rfl) fun t13 H13 ht13 s13 e13 o13 => ?_
        rw [neg_pq] at e13
        walk_at "rd"
        refine i_q2 (s13 _ _ w2) e13 (by rw [e0]; exact (bdL gy.2).mono (by decide)) (bm.neg.mono (by decide)) fun c14 H14 hc14 s14 e14 o14 => ?_
        walk_at "rd"
        have st14 := (st12.same s13).same s14
        refine i_ix0 (.of st14.eb) ?_
        walk_at "rd"
        have w14 := s14 _ _ (s13 _ _ w1)
        refine i_setL (j := 1) (ys := [y'.v, .ref c14]) w14 rfl rfl fun H15 e15 o15 => ?_
        have rn : r ≠ y'.q := fun z => by rw [z, w1] at er12; cases er12
        refine ⟨⟨_, rfl⟩, ?_, ?_, x', ⟨y'.q, c14, y'.v, y'.d, y'.p + -m⟩, ⟨hx1, hx2, hx3, by rw [hx4]; rfl⟩, ⟨hy1, hy2, hy3, by rw [if_pos (by decide)]; show y'.p + -m = _; rw [e0]⟩, st14.setB e15 o15 e14⟩
        · rw [o15 z3 (by rw [hy1]; exact Ne.symm yz)]
          exact s14 _ _ (s13 _ _ ez)
        · rw [o15 r rn]
          exact s14 _ _ (s13 _ _ er12)
      | j + 2, hj => exact absurd hj (by simp)
    rintro σ H12 ⟨⟨w', rfl⟩, ez, er12, x', y', ⟨hx1, hx2, hx3, hx4⟩, ⟨hy1, hy2, hy3, hy4⟩, st12⟩
    have hx4 : x'.p = x.p + -m := hx4
    have hy4 : y'.p = y.p + -m := hy4
    obtain ⟨u1, u2, u3⟩ := st12.ml x' List.mem_cons_self
    walk_at "rd"
    refine i_ix0 (.of st12.ea) ?_
    walk_at "rd"
    refine i_ix1 (.of u1) ?_
    walk_at "rd"
    refine i_p0 (.of u2) ?_
    walk_at "rd"
    refine .inr ⟨_, rfl, ?_⟩
    have ex : (if decide (x'.p.num = 0) = true then (1 : Int) else 0) = ((if x'.p.num = 0 then 1 else 0 : Nat) : Int) := by
      by_cases h : x'.p.num = 0 <;> simp [h]
    have ey : (if decide (y'.p.num = 0) = true then (1 : Int) else 0) = ((if y'.p.num = 0 then 1 else 0 : Nat) : Int) := by
      by_cases h : y'.p.num = 0 <;> simp [h]
    walk_at "rd"
    rw [ex]
    refine i_slFrom (.of st12.ea) (by rw [rv_len, List.length_cons]; split <;> omega) fun a2 H13 ha2 s13 e13 o13 => ?_
    have st13 := st12.dropA ha2 s13 e13
    obtain ⟨w1, w2, w3⟩ := st13.mr y' List.mem_cons_self
    walk_at "rd"
    refine i_ix0 (.of st13.eb) ?_
    walk_at "rd"
    refine i_ix1 (.of w1) ?_
    walk_at "rd"
    refine i_p0 (.of w2) ?_
    walk_at "rd"
    refine .inr ⟨_, rfl, ?_⟩
    walk_at "rd"
    rw [ey]
    refine i_slFrom (.of st13.eb) (by rw [rv_len, List.length_cons]; split <;> omega) fun b2 H14 hb2 s14 e14 o14 => ?_
    have st14 := st13.dropB hb2 s14 e14
    walk_at "rd"
    simp only [List.length_cons] at lA lB
    have hlen : ML.length + 1 + (MR.length + 1) + i ≤ L1.length + L2.length := by
      rcases hc with h | h | h
      · cases h
      · cases h
      · simpa using h
    rw [ab_cons, ab_cons] at hd
    have gML : GL D M (ab ML) := fun u hu => GA u (List.mem_cons_of_mem _ hu)
    have gMR : GL D M (ab MR) := fun u hu => GB u (List.mem_cons_of_mem _ hu)
    have gx1 := gx.2
    have gy1 := gy.2
    simp only at gx1 gy1
    have fin : ∀ (A B : List Rw), (x' :: ML).drop (if x'.p.num = 0 then 1 else 0) = A → (y' :: MR).drop (if y'.p.num = 0 then 1 else 0) = B → oab R ++ ((x.v, x.d), (y.v, y.d), m) :: ZD.deal (ab A) (ab B) = T → GL D M (ab A) → GL D M (ab B) → A.length ≤ ML.length + 1 → B.length ≤ MR.length + 1 → A.length + B.length ≤ ML.length + MR.length + 1 →
        ∃ a1 b1 ML MR R v4' u v w, [some (V.ref a), some (.ref b), some (.ref a2), some (.ref b2), v4, some (.ref f0), some (.int (i : Nat)), some (.ref r), w'] = [some (V.ref a), some (.ref b), some (.ref a1), some (.ref b1), v4', some (.ref f0), u, v, w] ∧ LS H H14 a1 b1 f0 ML MR R ∧ oab R ++ ZD.deal (ab ML) (ab MR) = T ∧
          GL D M (ab ML) ∧ GL D M (ab MR) ∧ (ML = [] ∨ MR = [] ∨ ML.length + MR.length + (i + 1) ≤ L1.length + L2.length) ∧ ML.length ≤ 6 ∧ MR.length ≤ 6 := by
      intro A B hA hB h1 h2 h3 h4 h5 h6
      rw [hA, hB] at st14
      refine ⟨a2, b2, A, B, R', v4, _, _, _, rfl, st14, ?_, h2, h3, .inr (.inr (by omega)), by omega, by omega⟩
      rw [← hR', oab_snoc, List.append_assoc]
      exact h1
    have nz : ∀ {q : Rat}, q = 0 → q.num = 0 := fun h => (ZR.num_zero _).mpr h
    have nn : ∀ {q : Rat}, q ≠ 0 → ¬ q.num = 0 := fun h z => h ((ZR.num_zero _).mp z)
    by_cases c1 : x.p < y.p
    · rw [if_pos c1] at hm
      have z1 : x'.p.num = 0 := nz (by rw [hx4, ← hm]; grind)
      have z2 : ¬ y'.p.num = 0 := nn (by rw [hy4, ← hm]; grind)
      have ep : y'.p = y.p - x.p := by rw [hy4, ← hm]; grind
      rw [ZD.deal_lt c1] at hd
      obtain ⟨A1, A2, A3, A4, A5, q4, qu, qv, qw, e0, rest⟩ := fin ML (y' :: MR) (by rw [if_pos z1]; rfl) (by rw [if_neg z2]; rfl) (by rw [ab_cons, hy2, hy3, ep, ← hm]; exact hd) gML (fun u hu => by
        rcases List.mem_cons.mp hu with rfl | hu
        · exact ⟨by show 0 < y'.p; rw [ep]; grind, by show ZD.Gd D M y'.p; rw [ep]; exact gy1.sub gx1 (by grind)⟩
        · exact gMR u hu) (by omega) (by simp) (by simp; omega)
      exact ⟨A1, A2, A3, A4, A5, q4, qu, qv, qw, e0, rest⟩
    · rw [if_neg c1] at hm
      have z2 : y'.p.num = 0 := nz (by rw [hy4, ← hm]; grind)
      by_cases c2 : x.p = y.p
      · have z1 : x'.p.num = 0 := nz (by rw [hx4, ← hm]; grind)
        rw [c2, ZD.deal_eq] at hd
        obtain ⟨A1, A2, A3, A4, A5, q4, qu, qv, qw, e0, rest⟩ := fin ML MR (by rw [if_pos z1]; rfl) (by rw [if_pos z2]; rfl) (by rw [← hm]; exact hd) gML gMR (by omega) (by omega) (by omega)
        exact ⟨A1, A2, A3, A4, A5, q4, qu, qv, qw, e0, rest⟩
      · have gt : y.p < x.p := by grind
        have z1 : ¬ x'.p.num = 0 := nn (by rw [hx4, ← hm]; grind)
        have ep : x'.p = x.p - y.p := by rw [hx4, ← hm]; grind
        rw [ZD.deal_gt gt] at hd
        obtain ⟨A1, A2, A3, A4, A5, q4, qu, qv, qw, e0, rest⟩ := fin (x' :: ML) MR (by rw [if_neg z1]; rfl) (by rw [if_pos z2]; rfl) (by rw [ab_cons, hx2, hx3, ep, ← hm]; exact hd) (fun u hu => by
          rcases List.mem_cons.mp hu with rfl | hu
          · exact ⟨by show 0 < x'.p; rw [ep]; grind, by show ZD.Gd D M x'.p; rw [ep]; exact gx1.sub gy1 (by grind)⟩
          · exact gML u hu) gMR (by simp) (by omega) (by simp; omega)
        exact ⟨A1, A2, A3, A4, A5, q4, qu, qv, qw, e0, rest⟩
  · clear ea1 eb1 hML rML nML fML aML hMR rMR nMR fMR aMR ha1 hb1 s3 s4 s5 t3 t5 e5 o5 hf
    rintro σ H6 ⟨a1, b1, ML, MR, R, v4, u, v, w, rfl, st, hd, GA, GB, hc, lA, lB⟩
    have hd0 : oab R = T := by
      have e0 : ZD.deal (ab ML) (ab MR) = [] := by
        rcases hc with h | h | h
        · rw [h]; exact ZD.deal_nil _
        · rw [h]; exact ZD.deal_nil' _
        · have : ML = [] := List.length_eq_zero_iff.mp (by omega)
          rw [this]; exact ZD.deal_nil _
      rw [e0, List.append_nil] at hd
      exact hd
    walk_at "rd"
    refine i_lst1 (Nat.le_of_ble_eq_true rfl) fun l H7 hl s7 e7 o7 => ?_
    have st7 := st.same s7
    refine k l H7 st7.sm ?_ ⟨_, e7, .inl ⟨eq, f0, ov R, rfl, st7.ef, ?_⟩⟩
    · rw [hT]
      unfold dTold
      rw [← hd0]
      exact .lst (.of e7) (.cons (.str _) (.cons (.lst (.of st7.ef) (dp_rows st7.ro)) .nil))
    · rw [ov_len, ← oab_len, hd0]
      exact dlen
theorem okL__law_of {P : Program} {w : World} {K : PySem.W.Frag} {mg : Str → Option Value} {base : Heap} {CR : Addr} {f : Addr} {fd : FuncData} (F : L2.Fun K "_law_of" "_law_of" s__law_of f fd)
    (C_c_Ratio : ClO K CR)
    (C_na_Ratio_bottom : NoAttr K CR "bottom")
    (C_na_Ratio_top : NoAttr K CR "top") :
    FnL P w K mg base 1 f fd ["_law_ratio"] (spOf CR) := by
  refine fnL_of F sc__law_of (fun vs H Q E h => h.1) (fun cdv A outer s H vs Q E p hr h => ?_)
  obtain ⟨_, a, p, rfl, ha, k⟩ := h
  refine ⟨_, pss_one (ps_ret (pe_tup (pa_cons (pe_fld (pv 0) rfl) (pa_cons (pe_fld (pv 0) rfl) pa_nil)))), ?_⟩
  try dsimp only [L2H.cxH, cxOf]
  walk_at "rd"
  exact i_tup1 (Nat.le_of_ble_eq_true rfl) fun c H' hc s e ho => k c H' hc s e ho
theorem ov_get {R : List Ro} {i : Nat} {x : V} (h : (ov R)[i]? = some x) : ∃ (y : Ro) (lt : i < R.length), y = R[i] ∧ x = .ref y.q ∧ y ∈ R := by
  have lt : i < R.length := by
    have := (List.getElem?_eq_some_iff.mp h).1
    rw [ov_len] at this
    exact this
  refine ⟨R[i], lt, rfl, ?_, List.getElem_mem lt⟩
  unfold ov at h
  simpa [lt] using h.symm
theorem oab_take {R : List Ro} {i : Nat} (lt : i < R.length) : (oab R).take (i + 1) = (oab R).take i ++ [((R[i].v1, R[i].d1), (R[i].v2, R[i].d2), R[i].p)] := by
  unfold oab
  rw [← List.map_take, ← List.map_take, List.take_succ_eq_append_getElem lt, List.map_append]
  rfl
def spTold (K : PySem.W.Frag) (CR : Addr) : Sp := fun vs H Q _ => vs.length = 2 ∧ ∃ (a b : Addr) (L1 L2 : List Rw) (D M : Nat), vs = [.ref a, .ref b] ∧ SqA K H a (rv L1) ∧ SqA K H b (rv L2) ∧ RowsP CR H L1 ∧ RowsP CR H L2 ∧ GL D M (ab L1) ∧ GL D M (ab L2) ∧ Sml D M 20 ∧
  L1.length ≤ 6 ∧ L2.length ≤ 6 ∧ (ZD.sm (ab L2) ≠ ZD.sm (ab L1) → (ZD.sm (ab L2)).num.natAbs < 10 ^ 30 ∧ (ZD.sm (ab L2)).den < 10 ^ 30) ∧
  ∀ l H', Same H H' → Dp K H' (.ref l) (dueD (ab L1) (ab L2)) → Q (.ref l) H'
abbrev s__law_told : Stmt := top 32
theorem sc__law_told : FnScope ["_law_first", "_law_second", "_law_one", "_law_other", "_law_share", "e"] ["_law_first", "_law_second"] (defScope s__law_told) := ⟨rfl, rfl, rfl, by decide +kernel, rfl, by decide +kernel, by decide +kernel⟩
theorem ok__law_told {P : Program} {w : World} {K : PySem.W.Frag} {mg : Str → Option Value} {base : Heap} {CR CX : Addr} {f : Addr} {fd : FuncData} (F : L2.Fun K "_law_told" "_law_told" s__law_told f fd)
    (C_c_Ratio : ClO K CR)
    (C_f_dealt : Cal P w K mg base "dealt" 8 (spDealt K CR CX))
    (C_f_law_of : Cal P w K mg base "_law_of" 1 (spOf CR))
    (C_gBadShares : mg "BadShares" = some (.ref CX))
    (C_l_law_of : CalL P w K mg base "_law_of" 1 (spOf CR))
    (C_na_Ratio_bottom : NoAttr K CR "bottom")
    (C_na_Ratio_top : NoAttr K CR "top")
    (C_xf_BadShares : XfC K CX)
    (C_xm_BadShares : PySem.W.exmOne K (.ref CX) (.ref CX) = some true)
    (C_xn_BadShares_total : PySem.W.findIn K (.ref CX) "total" = some none) :
    FnOk P w K mg base (L2.CX P w) 9 f fd ["_law_first", "_law_second"] (spTold K CR) := by
  refine fnOk_mk F sc__law_told (fun vs H Q E h => h.1) (fun cdv A outer s H vs Q E hr h => ?_)
  obtain ⟨_, a, b, L1, L2, D, M, rfl, h1, h2, R1, R2, G1, G2, hs, l1, l2, hb, k⟩ := h
  refine ⟨_, pss_one (ps_try_as (i := 5) rfl rfl sc__law_told.nd rfl rfl ⟨rfl, by decide, .inl C_gBadShares⟩ takes0 (fun W pn xe tk po => pss_one (ps_ret (pe_lst (pa_cons pe_str (pa_cons (pe_lc (own := [("_law_one", 2), ("_law_other", 3), ("_law_share", 4)]) (by rfl) sc__law_told.nd (pi_any (K := K) rfl (z_callC C_f_dealt hr (fun σ => passAt tk σ) (pa_cons (pv 0) (pa_cons (pv 1) pa_nil)))) (blkOk_by (N := ["_law_first", "_law_second", "_law_one", "_law_other", "_law_share", "e"]) (sc := defScope s__law_told) (by decide +kernel)) (fun _ _ _ _ _ => k_tup (K := K) (n := 3) rfl rfl (pgs_cons (pg_name (i := 2) sc__law_told.nd rfl (Or.inl rfl)) (pgs_cons (pg_name (i := 3) sc__law_told.nd rfl (Or.inl rfl)) (pgs_cons (pg_name (i := 4) sc__law_told.nd rfl (Or.inl rfl)) pgs_nil)))) (fun _ _ _ _ _ => pts_nil) (fun _ _ _ _ _ => pe_tup (pa_cons (pv 2) (pa_cons (pv 3) (pa_cons (z_callC C_f_law_of hr passN (pa_cons (pv 4) pa_nil)) pa_nil))))) pa_nil))))) (fun a oe cls d pn hz hf => pss_one (ps_ret (pe_lst (pa_cons pe_str (pa_cons (z_callL C_l_law_of (roomL hr) (List.mem_cons_self ..) passN (pa_cons (pe_xf C_xf_BadShares C_xn_BadShares_total hz hf (pv 5)) pa_nil)) pa_nil)))))), ?_⟩
  try dsimp only [cxOf]
  walk_at "rd"
  refine ⟨rfl, a, b, L1, L2, D, M, rfl, h1, h2, R1, R2, G1, G2, hs, l1, l2, fun ne => ⟨(hb ne).1, (hb ne).2, fun d r H1 s1 e1 er => ?_⟩, fun eq l H1 R hl s1 el ro od => ?_⟩
  · refine i_was C_xm_BadShares fun a ha => ?_
    walk_at "rd"
    refine i_xf1 e1 ?_
    walk_at "rd"
    refine ⟨rfl, r, _, rfl, er, fun c H2 hc s2 e2 o2 => ?_⟩
    walk_at "rd"
    refine i_lst1 (Nat.le_of_ble_eq_true rfl) fun p H3 hp s3 e3 o3 => ?_
    refine k p H3 ((s1.trans s2).trans s3) ?_
    unfold dueD
    rw [if_neg (fun z => ne z.symm)]
    exact .lst (.of e3) (.cons (.str _) (.cons (dp_pq (s3 _ _ e2)) .nil))
  · walk_at "rd"
    refine i_lcA (H0 := H1) (fun i ys H2 => Same H1 H2 ∧ ∃ W, ys = ov W ∧ W.length = i ∧ RowsQ H2 W ∧ oab W = (oab R).take i) (.l el) (Same.refl _) (fun D H' hD s e o => ⟨s, [], rfl, rfl, fun x hx => absurd hx (by simp), rfl⟩) (fun i ys H2 h => h.1) ?_ ?_
    · rintro i x D' ys H2 hD hi eD ⟨s2, W, rfl, hW, hRW, hab⟩
      obtain ⟨y, lt, ey, rfl, hm⟩ := ov_get hi
      obtain ⟨g1, g2, g3, g4⟩ := ro y hm
      walk_at "rd"
      refine i_gtup (.of (s2 _ _ g1)) rfl ?_
      walk_at "rd"
      refine ⟨by with_unfolding_all rfl, ?_⟩
      walk_at "rd"
      refine ⟨rfl, y.r, y.p, rfl, g2.mono s2, fun c H3 hc s3 e3 o3 => ?_⟩
      walk_at "rd"
      refine i_tup1 (Nat.le_of_ble_eq_true rfl) fun q H4 hq s4 e4 o4 => ?_
      have s24 := s3.trans s4
      have lR : R.length ≤ 12 := by
        have := congrArg List.length od
        rw [oab_len] at this
        have d := ZD.deal_len _ (ab L1) (ab L2) (Nat.le_refl _)
        rw [ab_len, ab_len] at d
        omega
      refine i_lcE (s24 _ _ eD) (by rw [ov_len]; omega) fun H7 e7 o7 => ⟨fun b o eb => ?_, W ++ [⟨q, c, y.v1, y.v2, y.d1, y.d2, y.p⟩], ?_, by rw [List.length_append, hW]; rfl, ?_, ?_⟩
      · rw [o7 b (ne_of_none eb hD)]
        exact s24 _ _ (s2 _ _ eb)
      · rw [ov_snoc]
      · have kt : KeepT H4 H7 := .but (s24 _ _ eD) (fun _ z => by cases z) o7
        intro u hu
        rcases List.mem_append.mp hu with hu | hu
        · exact ((hRW.keep (.of s24)).keep kt) u hu
        · rw [List.mem_singleton.mp hu]
          exact ⟨kt _ _ e4, kt _ _ (s4 _ _ e3), (g3.keep (.of (s2.trans s24))).keep kt, (g4.keep (.of (s2.trans s24))).keep kt⟩
      · rw [oab_take lt, ← hab, oab_snoc, ← ey]
    · rintro D' ys H2 hD eD ⟨s2, W, rfl, hW, hRW, hab⟩
      rw [ov_len, ← oab_len, List.take_length] at hab
      walk_at "rd"
      refine i_lst1 (Nat.le_of_ble_eq_true rfl) fun p H3 hp s3 e3 o3 => ?_
      refine k p H3 ((s1.trans s2).trans s3) ?_
      unfold dueD
      rw [if_pos eq.symm]
      unfold dTold
      rw [← od, ← hab]
      exact .lst (.of e3) (.cons (.str _) (.cons (.lst (.of (s3 _ _ eD)) (dp_rows (hRW.keep (.of s3)))) .nil))
mutual
theorem dpMono {K : PySem.W.Frag} {H H' : Hp} (s : Same H H') : ∀ {v : V} {d : PyData}, Dp K H v d → Dp K H' v d
  | _, _, .non => .non
  | _, _, .bl b => .bl b
  | _, _, .int i => .int i
  | _, _, .str x => .str x
  | _, _, .lst h hs => .lst (s.seq h) (dpMonoAll s hs)
  | _, _, .tup h hs => .tup (Same_seqT s h) (dpMonoAll s hs)
theorem dpMonoAll {K : PySem.W.Frag} {H H' : Hp} (s : Same H H') : ∀ {vs : List V} {ds : List PyData}, DpAll K H vs ds → DpAll K H' vs ds
  | _, _, .nil => .nil
  | _, _, .cons h hs => .cons (dpMono s h) (dpMonoAll s hs)
end
theorem i_forRk {g : TG} {tb : TS} {D : Ends} {σ : L2.St} {H : Hp} {k : Int} (hk : 0 ≤ k) (hn : k < 1000000) (Pv : Nat → L2.St → Hp → Prop) (h0 : Pv 0 σ H)
    (hs : ∀ (i : Nat) σ H, (i : Int) < k → Pv i σ H → g (.int (i : Nat)) σ H fun σ2 H2 => tb { D with nx := Pv (i + 1), ct := Pv (i + 1), bk := D.nx } σ2 H2) (hd : ∀ σ H, Pv k.toNat σ H → D.nx σ H) : rForR g tb D σ [.int k] H :=
  i_forR (n := k.toNat) (by omega) (by omega) Pv h0 (fun i σ H hi p => hs i σ H (by omega) p) hd
theorem deal_all {α : Type} {P : α → Prop} : ∀ (n : Nat) (A B : List (α × Rat)), A.length + B.length ≤ n → (∀ x ∈ A, P x.1) → (∀ x ∈ B, P x.1) → ∀ y ∈ ZD.deal A B, P y.1 ∧ P y.2.1
  | _, [], B, _, _, _, y, hy => by rw [ZD.deal_nil] at hy; cases hy
  | _, x :: A, [], _, _, _, y, hy => by rw [ZD.deal_nil'] at hy; cases hy
  | 0, x :: A, z :: B, h, _, _, y, hy => by simp at h
  | n + 1, (a, p) :: A, (b, q) :: B, h, hA, hB, y, hy => by
    simp only [List.length_cons] at h
    have pa : P a := hA _ List.mem_cons_self
    have pb : P b := hB _ List.mem_cons_self
    have tA : ∀ x ∈ A, P x.1 := fun x hx => hA x (List.mem_cons_of_mem _ hx)
    have tB : ∀ x ∈ B, P x.1 := fun x hx => hB x (List.mem_cons_of_mem _ hx)
    by_cases e1 : p < q
    · rw [ZD.deal_lt e1] at hy
      rcases List.mem_cons.mp hy with rfl | hy
      · exact ⟨pa, pb⟩
      · refine deal_all n A _ (by simp only [List.length_cons]; omega) tA (fun x hx => ?_) y hy
        rcases List.mem_cons.mp hx with rfl | hx
        · exact pb
        · exact tB x hx
    · by_cases e2 : p = q
      · subst e2
        rw [ZD.deal_eq] at hy
        rcases List.mem_cons.mp hy with rfl | hy
        · exact ⟨pa, pb⟩
        · exact deal_all n A B (by omega) tA tB y hy
      · rw [ZD.deal_gt (by grind)] at hy
        rcases List.mem_cons.mp hy with rfl | hy
        · exact ⟨pa, pb⟩
        · refine deal_all n _ B (by simp only [List.length_cons]; omega) (fun x hx => ?_) tB y hy
          rcases List.mem_cons.mp hx with rfl | hx
          · exact pa
          · exact tA x hx
theorem lay_due {A B : List ((V × PyData) × Rat)} (hA : ∀ x ∈ A, Lay 1 x.1.2) (hB : ∀ x ∈ B, Lay 1 x.1.2) : Lay 4 (dueD A B) := by
  unfold dueD
  split
  · refine lay_list fun d hd => ?_
    rcases List.mem_cons.mp hd with rfl | hd
    · exact (lay_str (by decide +kernel)).mono (by decide)
    · rw [List.mem_singleton.mp hd]
      refine lay_list fun d hd => ?_
      obtain ⟨x, hx, rfl⟩ := List.mem_map.mp hd
      obtain ⟨h1, h2⟩ := deal_all (P := fun z : V × PyData => Lay 1 z.2) _ A B (Nat.le_refl _) hA hB x hx
      refine lay_tup fun d hd => ?_
      rcases List.mem_cons.mp hd with rfl | hd
      · exact h1
      · rcases List.mem_cons.mp hd with rfl | hd
        · exact h2
        · rw [List.mem_singleton.mp hd]; exact lay_dQ _
  · refine (lay_list (n := 1) fun d hd => ?_).mono (by decide)
    rcases List.mem_cons.mp hd with rfl | hd
    · exact (lay_str (by decide +kernel)).mono (by decide)
    · rw [List.mem_singleton.mp hd]; exact lay_dQ _
theorem rowsL_lay {H : Hp} {L : List Rw} (h : RowsL H L) : ∀ x ∈ ab L, Lay 1 x.1.2 := fun x hx => by
  obtain ⟨y, hy, rfl⟩ := List.mem_map.mp hx
  exact (h y hy).2.2.lay
theorem rowsL_dp {K : PySem.W.Frag} {H : Hp} : ∀ {L : List Rw}, RowsL H L → DpAll K H (rv L) (L.map fun x => PyData.tuple [x.d, dQ x.p])
  | [], _ => .nil
  | x :: L, h => by
    obtain ⟨h1, h2, h3⟩ := h x List.mem_cons_self
    exact .cons (.tup (.of h1) (.cons h3.dp (.cons (dp_pq h2) .nil))) (rowsL_dp fun y hy => h y (List.mem_cons_of_mem _ hy))
theorem i_neNilL {K : PySem.W.Frag} {H : Hp} {Q : VK} {a b : Addr} {L : List Rw} (ha : H a = some (.lst (rv L))) (hb : H b = some (.lst [])) (hr : RowsL H L) (h : Q (.bl (!decide (L = []))) H) : rNeD K (.ref a) (.ref b) H Q := by
  refine ⟨_, _, .lst (.of ha) (rowsL_dp hr), .lst (.of hb) .nil, (lay_list (n := 2) fun d hd => ?_).shaped (by decide), by decide, ?_⟩
  · obtain ⟨x, hx, rfl⟩ := List.mem_map.mp hd
    refine lay_tup fun d hd => ?_
    rcases List.mem_cons.mp hd with rfl | hd
    · exact (hr x hx).2.2.lay
    · rw [List.mem_singleton.mp hd]; exact lay_dQ _
  · have e : PyData.eqv (.list (L.map fun x => PyData.tuple [x.d, dQ x.p])) (.list []) = decide (L = []) := by
      cases L with
      | nil => rfl
      | cons x L => rfl
    rw [e]
    exact h
theorem But'.keepT {H H' : Hp} {p : Addr} {n : Nat} (h : PoolN H p n) (b : But' p H H') : KeepT H H' := fun c xs e => b c _ (fun z => by obtain ⟨_, _, _, h, _⟩ := h; rw [z, h] at e; cases e) e
theorem bounds60 {L : List Rw} (G : GL 60 (10 ^ 12) (ab L)) (h : L.length ≤ 6) : (ZD.sm (ab L)).num.natAbs < 10 ^ 30 ∧ (ZD.sm (ab L)).den < 10 ^ 30 := by
  have g := gl_sm G
  have h1 := g.num (by decide)
  have h2 := g.den (by decide)
  rw [ab_len] at h1
  have : L.length * 10 ^ 12 * 60 ≤ 6 * 10 ^ 12 * 60 := Nat.mul_le_mul_right _ (Nat.mul_le_mul_right _ h)
  exact ⟨Nat.lt_of_le_of_lt (Nat.le_trans h1 this) (by decide +kernel), Nat.lt_of_le_of_lt h2 (by decide +kernel)⟩
theorem sml20 : Sml 60 (10 ^ 12) 20 := by
  refine ⟨by decide, Nat.lt_of_lt_of_le (show 60 < 2 ^ 10 by decide) (Nat.pow_le_pow_right (by decide) (by decide)), ?_⟩
  exact Nat.lt_of_lt_of_le (show 20 * 10 ^ 12 * 60 < 2 ^ 100 by decide +kernel) (Nat.pow_le_pow_right (by decide) (by decide))
theorem sml_sc {N : Nat} (h0 : 0 < N) (hN : N ≤ 6 * 10 ^ 12 * 60) : Sml (3600 * N) (2 ^ 90) 20 := by
  have e : 3600 * N ≤ 2 ^ 62 := Nat.le_trans (Nat.mul_le_mul_left _ hN) (by decide +kernel)
  refine ⟨by omega, Nat.lt_of_le_of_lt e (Nat.pow_lt_pow_right (by decide) (by decide)), ?_⟩
  have : 20 * 2 ^ 90 * (3600 * N) ≤ 20 * 2 ^ 90 * 2 ^ 62 := Nat.mul_le_mul_left _ e
  exact Nat.lt_of_le_of_lt this (Nat.lt_of_lt_of_le (show 20 * 2 ^ 90 * 2 ^ 62 < 2 ^ 160 by decide +kernel) (Nat.pow_le_pow_right (by decide) (by decide)))
/-- the scaled rows -/
theorem scaled_ok {L1 L2 L : List Rw} (G1 : GL 60 (10 ^ 12) (ab L1)) (G2 : GL 60 (10 ^ 12) (ab L2)) (l1 : L1.length ≤ 6) (l2 : L2.length ≤ 6) (n1 : L1 ≠ []) (n2 : L2 ≠ []) (h : ab L = scl (ZD.sm (ab L1) * (ZD.sm (ab L2))⁻¹) (ab L2)) :
    ∃ D M, GL D M (ab L1) ∧ GL D M (ab L) ∧ Sml D M 20 ∧ ZD.sm (ab L) = ZD.sm (ab L1) := by
  have ne : ∀ {L : List Rw}, L ≠ [] → ab L ≠ [] := fun hn z => hn (by have := congrArg List.length z; rw [ab_len] at this; exact List.length_eq_zero_iff.mp this)
  have S0 : 0 < ZD.sm (ab L2) := ZD.sm_gt (ne n2) fun x hx => (G2 x hx).1
  have W0 : 0 < ZD.sm (ab L1) := ZD.sm_gt (ne n1) fun x hx => (G1 x hx).1
  have gS : ZD.Gd 60 (6 * 10 ^ 12) (ZD.sm (ab L2)) := (gl_sm G2).mono (by rw [ab_len]; exact Nat.mul_le_mul_right _ l2)
  have gW : ZD.Gd 60 (6 * 10 ^ 12) (ZD.sm (ab L1)) := (gl_sm G1).mono (by rw [ab_len]; exact Nat.mul_le_mul_right _ l1)
  have np := ZD.num_pos S0
  have nl := gS.num (by decide)
  have iv : 0 < (ZD.sm (ab L2))⁻¹ := by
    have e := ZD.inv_nd S0
    have h1 := (ZR.lt_nd 0 (ZD.sm (ab L2))⁻¹).mp (by rw [e.1]; have := den_pos (ZD.sm (ab L2)); simpa using this)
    exact h1
  refine ⟨3600 * (ZD.sm (ab L2)).num.natAbs, 2 ^ 90, fun x hx => ⟨(G1 x hx).1, ?_⟩, fun x hx => ?_, sml_sc (by omega) nl, ?_⟩
  · have g := ((G1 x hx).2.muls (60 * (ZD.sm (ab L2)).num.natAbs)).mono (M' := 2 ^ 90) (by decide +kernel)
    have e : 60 * (60 * (ZD.sm (ab L2)).num.natAbs) = 3600 * (ZD.sm (ab L2)).num.natAbs := by omega
    rw [e] at g
    exact g
  · rw [h] at hx
    obtain ⟨y, hy, rfl⟩ := List.mem_map.mp hx
    have gy := G2 y hy
    refine ⟨Rat.mul_pos gy.1 (Rat.mul_pos W0 iv), ?_⟩
    have e : y.2 * (ZD.sm (ab L1) * (ZD.sm (ab L2))⁻¹) = y.2 * ZD.sm (ab L1) * (ZD.sm (ab L2))⁻¹ := by grind
    show ZD.Gd _ _ (y.2 * (ZD.sm (ab L1) * (ZD.sm (ab L2))⁻¹))
    rw [e]
    exact ZD.gd_scaled gy.2 gW S0 gS
  · rw [h]
    unfold scl
    rw [ZD.sm_scale]
    have : ZD.sm (ab L2) ≠ 0 := by grind
    grind
def spLaw (K : PySem.W.Frag) : Sp := fun vs H Q _ => vs.length = 1 ∧ ∃ (a : Addr) (ns : List Int), vs = [.ref a] ∧ SqL K H a (ns.map V.int) ∧ ns.length ≤ 63 ∧ ∀ H', Q (.bl true) H'
abbrev s_law : Stmt := top 33
theorem sc_law : FnScope ["_law_script", "_law_k", "_law_pool_here", "_law_first", "_law_second", "_law_due_here", "_law_passed", "_law_thing", "_law_share", "_law_row_here", "_law_kept"] ["_law_script"] (defScope s_law) := ⟨rfl, rfl, rfl, by decide +kernel, rfl, by decide +kernel, by decide +kernel⟩
theorem ok_law {P : Program} {w : World} {K : PySem.W.Frag} {mg : Str → Option Value} {base : Heap} {CB CR : Addr} {f : Addr} {fd : FuncData} (F : L2.Fun K "law" "law" s_law f fd)
    (C_b_len : mg "len" = none)
    (C_b_list : mg "list" = none)
    (C_b_max : mg "max" = none)
    (C_b_min : mg "min" = none)
    (C_b_range : mg "range" = none)
    (C_b_tuple : mg "tuple" = none)
    (C_f_law_cell : Cal P w K mg base "_law_cell" 1 (spCell K))
    (C_f_law_due : Cal P w K mg base "_law_due" 4 (spDue K))
    (C_f_law_pool : Cal P w K mg base "_law_pool" 1 spPoolN)
    (C_f_law_row : Cal P w K mg base "_law_row" 2 spRow)
    (C_f_law_scaled : Cal P w K mg base "_law_scaled" 4 spScaled)
    (C_f_law_sum : Cal P w K mg base "_law_sum" 3 (spSum K))
    (C_f_law_take : Cal P w K mg base "_law_take" 1 spTakeN)
    (C_f_law_told : Cal P w K mg base "_law_told" 9 (spTold K CR))
    (C_i_Ratio : CalI P w K mg base "Ratio" CR 4 (spRInit CR CB)) :
    FnOk P w K mg base (L2.CX P w) 10 f fd ["_law_script"] (spLaw K) := by
  refine fnOk_mk F sc_law (fun vs H Q E h => h.1) (fun cdv A outer s H vs Q E hr h => ?_)
  obtain ⟨_, a, ns, rfl, ha, hns, k⟩ := h
  refine ⟨_, pss_cons (ps_for (passes_of rfl) rfl (pi_range1 (by rfl) C_b_range (pa_cons (pe_callB (call_max2 rfl) (by rfl) C_b_max (by decide +kernel) (pa_cons pe_int (pa_cons (pe_callB (call_min2 rfl) (by rfl) C_b_min (by decide +kernel) (pa_cons pe_int (pa_cons (pe_callB (k_len (K := K) rfl) (by rfl) C_b_len (by decide +kernel) (pa_cons (pv 0) pa_nil)) pa_nil))) pa_nil))) pa_nil)) (pg_name (i := 1) sc_law.nd rfl (Or.inl rfl)) (pss_cons (ps_set (i := 2) sc_law.nd rfl (Or.inl rfl) (z_callC C_f_law_pool hr passN (pa_cons (z_callC C_f_law_cell hr passN (pa_cons (pv 0) (pa_cons (pv 1) pa_nil))) pa_nil)))
    (pss_cons (ps_par (i := 3) (j := 4) (by rfl) sc_law.nd rfl rfl (by decide) rfl rfl (pa_cons (z_callC C_f_law_row hr passN (pa_cons (pv 2) pa_nil)) (pa_cons (z_callC C_f_law_row hr passN (pa_cons (pv 2) pa_nil)) pa_nil)) (by rfl))
    (pss_cons (ps_if (PW.pt (pw_and (pt_cmpR (k_neD (K := K) rfl hr.units) (pv 3) (pe_lst pa_nil) (nomark _)) (pw_and (pt_cmpR (k_neD (K := K) rfl hr.units) (pv 4) (pe_lst pa_nil) (nomark _)) (pw_and1 (pt_cmpR op_gt (z_callC C_f_law_take hr passN (pa_cons (pv 2) (pa_cons pe_int pa_nil))) pe_int (nomark _)))))) (pss_one (ps_set (i := 4) sc_law.nd rfl (Or.inl rfl) (z_callC C_f_law_scaled hr passN (pa_cons (pv 4) (pa_cons (z_callC C_f_law_sum hr passN (pa_cons (pv 3) pa_nil)) pa_nil))))) (pss_nil))
    (pss_cons (ps_set (i := 5) sc_law.nd rfl (Or.inl rfl) (z_callC C_f_law_due hr passN (pa_cons (pv 3) (pa_cons (pv 4) pa_nil))))
    (pss_cons (ps_setLc (i := 6) (own := [("_law_row_here", 9)]) (by rfl) sc_law.nd rfl rfl (sw_true rfl rfl rfl (by decide +kernel)) (pi_any (K := K) rfl (pe_lst (pa_cons (pv 3) (pa_cons (pv 4) pa_nil)))) (blkOk_by (N := ["_law_script", "_law_k", "_law_pool_here", "_law_first", "_law_second", "_law_due_here", "_law_passed", "_law_thing", "_law_share", "_law_row_here", "_law_kept"]) (sc := defScope s_law) (by decide +kernel)) (fun _ _ _ _ _ => pg_name (i := 9) sc_law.nd rfl (Or.inl rfl)) (fun _ _ _ _ _ => pts_nil) (fun _ _ _ _ _ => pe_lc (own := [("_law_thing", 7), ("_law_share", 8)]) (by rfl) sc_law.nd (pi_any (K := K) rfl (pv 9)) (blkOk_by (N := ["_law_script", "_law_k", "_law_pool_here", "_law_first", "_law_second", "_law_due_here", "_law_passed", "_law_thing", "_law_share", "_law_row_here", "_law_kept"]) (by rfl)) (fun _ _ _ _ _ => k_tup (K := K) (n := 2) rfl rfl (pgs_cons (pg_name (i := 7) sc_law.nd rfl (Or.inl rfl)) (pgs_cons (pg_name (i := 8) sc_law.nd rfl (Or.inl rfl)) pgs_nil))) (fun _ _ _ _ _ => pts_nil) (fun _ _ _ _ _ => pe_tup (pa_cons (pv 7) (pa_cons (z_makeC C_i_Ratio hr passN (pa_cons (pe_ix (k_ixT (K := K) rfl) (pv 8) pe_int (fun _ _ => rfl)) (pa_cons (pe_ix (k_ixT (K := K) rfl) (pv 8) pe_int (fun _ _ => rfl)) pa_nil))) pa_nil)))))
    (pss_cons (ps_setLc (i := 10) (own := [("_law_row_here", 9)]) (by rfl) sc_law.nd rfl rfl (sw_true rfl rfl rfl (by decide +kernel)) (pi_any (K := K) rfl (pv 6)) (blkOk_by (N := ["_law_script", "_law_k", "_law_pool_here", "_law_first", "_law_second", "_law_due_here", "_law_passed", "_law_thing", "_law_share", "_law_row_here", "_law_kept"]) (sc := defScope s_law) (by decide +kernel)) (fun _ _ _ _ _ => pg_name (i := 9) sc_law.nd rfl (Or.inl rfl)) (fun _ _ _ _ _ => pts_nil) (fun _ _ _ _ _ => pe_callTy (k_listA (K := K) rfl) (by rfl) C_b_list (by decide +kernel) (pa_cons (pv 9) pa_nil)))
    (pss_cons (ps_if (PW.pt (pw_or (pt_cmpR (k_neD (K := K) rfl hr.units) (z_callC C_f_law_told hr passN (pa_cons (pe_ix ix_list (pv 6) pe_int (fun _ _ => rfl)) (pa_cons (pe_ix ix_list (pv 6) pe_int (fun _ _ => rfl)) pa_nil))) (pv 5) (nomark _)) (pw_or1 (pt_cmpR (k_neD (K := K) rfl hr.units) (z_callC C_f_law_told hr passN (pa_cons (pe_callTy (k_tupA (K := K) rfl) (by rfl) C_b_tuple (by decide +kernel) (pa_cons (pe_ix ix_list (pv 6) pe_int (fun _ _ => rfl)) pa_nil)) (pa_cons (pe_callTy (k_tupA (K := K) rfl) (by rfl) C_b_tuple (by decide +kernel) (pa_cons (pe_ix ix_list (pv 6) pe_int (fun _ _ => rfl)) pa_nil)) pa_nil))) (pv 5) (nomark _))))) (pss_one (ps_ret pe_bl)) (pss_nil))
    (pss_cons (ps_if (pt_cmpR (z_neLL (u1n hr)) (pv 6) (pv 10) (nomark _)) (pss_one (ps_ret pe_bl)) (pss_nil))
    (pss_one (ps_if (PW.pt (pw_and (pt_cmpR op_eq (pe_ix ix_list (pv 5) pe_int (fun _ _ => rfl)) pe_str (nomark _)) (pw_and1 (pt_cmpR op_gt (pe_callB (k_len (K := K) rfl) (by rfl) C_b_len (by decide +kernel) (pa_cons (pe_ix ix_list (pv 5) pe_int (fun _ _ => rfl)) pa_nil)) (pe_callB (call_max2 rfl) (by rfl) C_b_max (by decide +kernel) (pa_cons pe_int (pa_cons (pe_op op_sub (pe_op op_add (pe_callB (k_len (K := K) rfl) (by rfl) C_b_len (by decide +kernel) (pa_cons (pv 3) pa_nil)) (pe_callB (k_len (K := K) rfl) (by rfl) C_b_len (by decide +kernel) (pa_cons (pv 4) pa_nil))) pe_int) pa_nil))) (nomark _))))) (pss_one (ps_ret pe_bl)) (pss_nil))))))))))))
    (pss_one (ps_ret pe_bl)), ?_⟩
  try dsimp only [cxOf]
  walk_at "rd"
  refine i_lenL ha ?_
  rw [List.length_map]
  walk_at "rd"
  refine ⟨_, _, rfl, ?_⟩
  walk_at "rd"
  refine ⟨_, _, rfl, ?_⟩
  walk_at "rd"
  refine i_forRk (by repeat' split <;> omega) (by repeat' split <;> omega) (fun i σ H' => ∃ v1 v2 v3 v4 v5 v6 v7 v8 v9 v10, σ = [some (.ref a), v1, v2, v3, v4, v5, v6, v7, v8, v9, v10] ∧ Same H H') ⟨_, _, _, _, _, _, _, _, _, _, rfl, Same.refl _⟩ ?_ ?_
  · rintro i σ H1 hi ⟨v1, v2, v3, v4, v5, v6, v7, v8, v9, v10, rfl, sm⟩
    walk_at "rd"
    refine i_cell (sm.seq ha) fun c => ?_
    walk_at "rd"
    refine ⟨rfl, c, rfl, fun p H2 hp s2 o2 pl => ?_⟩
    walk_at "rd"
    refine ⟨rfl, p, 0, rfl, pl, by decide, fun l1 H3 L1 hl1 b3 pl3 el1 R1 len1 G1 ok1 => ?_⟩
    walk_at "rd"
    refine ⟨rfl, p, 19, rfl, pl3, by decide, fun l2 H4 L2 hl2 b4 pl4 el2 R2 len2 G2 ok2 => ?_⟩
    have pH : H p = none := sm.free hp
    have l1p : l1 ≠ p := pl.ne hl1
    have sm4 : Same H H4 := fun b o e => b4 b o (ne_of_none e pH) (b3 b o (ne_of_none e pH) (s2 _ _ (sm _ _ e)))
    have el14 : H4 l1 = some (.lst (rv L1)) := b4 l1 _ l1p el1
    have R14 : RowsL H4 L1 := R1.keep (But'.keepT pl3 b4)
    clear el1 R1 ok1 ok2 b3 b4 s2 o2 pl pl3 hl1 hl2 hp sm l1p
    walk_at "r1"
    walk_at "r1"
    walk_at "r1"
    refine i_capS (t := tIfS _ _ _) (fun σ H' => ∃ m2 M2 D M, σ = [some (.ref a), some (.int (i : Nat)), some (.ref p), some (.ref l1), some (.ref m2), v5, v6, v7, v8, v9, v10] ∧ Same H H' ∧ H' l1 = some (.lst (rv L1)) ∧ H' m2 = some (.lst (rv M2)) ∧ RowsL H' L1 ∧ RowsL H' M2 ∧
        GL D M (ab L1) ∧ GL D M (ab M2) ∧ Sml D M 20 ∧ M2.length ≤ 6 ∧ (ZD.sm (ab M2) ≠ ZD.sm (ab L1) → (ZD.sm (ab M2)).num.natAbs < 10 ^ 30 ∧ (ZD.sm (ab M2)).den < 10 ^ 30)) ?_ fun tail => ?_
    rotate_left
    · have base : ∀ H', Same H4 H' → ∃ m2 M2 D M, [some (V.ref a), some (.int (i : Nat)), some (.ref p), some (.ref l1), some (.ref l2), v5, v6, v7, v8, v9, v10] = [some (V.ref a), some (.int (i : Nat)), some (.ref p), some (.ref l1), some (.ref m2), v5, v6, v7, v8, v9, v10] ∧ Same H H' ∧ H' l1 = some (.lst (rv L1)) ∧ H' m2 = some (.lst (rv M2)) ∧ RowsL H' L1 ∧ RowsL H' M2 ∧
          GL D M (ab L1) ∧ GL D M (ab M2) ∧ Sml D M 20 ∧ M2.length ≤ 6 ∧ (ZD.sm (ab M2) ≠ ZD.sm (ab L1) → (ZD.sm (ab M2)).num.natAbs < 10 ^ 30 ∧ (ZD.sm (ab M2)).den < 10 ^ 30) := fun H' s =>
        ⟨l2, L2, 60, 10 ^ 12, rfl, sm4.trans s, s _ _ el14, s _ _ el2, R14.keep (.of s), R2.keep (.of s), G1, G2, sml20, len2, fun _ => bounds60 G2 len2⟩
      walk_at "rd"
      refine i_lst1 (Nat.le_of_ble_eq_true rfl) fun z5 H5 hz5 s5 e5 o5 => ?_
      refine i_neNilL (s5 _ _ el14) e5 (R14.keep (.of s5)) ?_
      refine ⟨_, rfl, ?_⟩
      refine i_ndec (fun n1 => ?_) (fun _ => ?_)
      rotate_left
      · exact i_ff (i_next (tail _ _ (base _ s5)))
      walk_at "rd"
      refine i_lst1 (Nat.le_of_ble_eq_true rfl) fun z6 H6 hz6 s6 e6 o6 => ?_
      have t6 := s5.trans s6
      refine i_neNilL (t6 _ _ el2) e6 (R2.keep (.of t6)) ?_
      refine ⟨_, rfl, ?_⟩
      refine i_ndec (fun n2 => ?_) (fun _ => ?_)
      rotate_left
      · exact i_ff (i_next (tail _ _ (base _ t6)))
      walk_at "rd"
      have pl6 := pl4.same t6
      refine i_takeN pl6 (by decide) (by decide) (by decide) fun r H7 r0 r1 o7 pl7 => ?_
      have k7 := pl6.keepT o7
      have l1p : l1 ≠ p := fun z => by obtain ⟨_, _, _, e, _⟩ := pl4; rw [← z, el14] at e; unfold rv at e; cases L1 <;> cases e
      have l2p : l2 ≠ p := fun z => by obtain ⟨_, _, _, e, _⟩ := pl4; rw [← z, el2] at e; unfold rv at e; cases L2 <;> cases e
      walk_at "rd"
      refine i_dec (fun _ => ?_) (fun _ => ?_)
      rotate_left
      · refine i_next (tail _ _ ⟨l2, L2, 60, 10 ^ 12, rfl, fun b o e => ?_, ?_, ?_, R14.keep ((KeepT.of t6).trans k7), R2.keep ((KeepT.of t6).trans k7), G1, G2, sml20, len2, fun _ => bounds60 G2 len2⟩)
        · rw [o7 b (ne_of_none e pH)]; exact t6 _ _ (sm4 _ _ e)
        · rw [o7 l1 l1p]; exact t6 _ _ el14
        · rw [o7 l2 l2p]; exact t6 _ _ el2
      have sm7 : Same H H7 := fun b o e => by rw [o7 b (ne_of_none e pH)]; exact t6 _ _ (sm4 _ _ e)
      have el17 : H7 l1 = some (.lst (rv L1)) := by rw [o7 l1 l1p]; exact t6 _ _ el14
      have el27 : H7 l2 = some (.lst (rv L2)) := by rw [o7 l2 l2p]; exact t6 _ _ el2
      have R17 := R14.keep ((KeepT.of t6).trans k7)
      have R27 := R2.keep ((KeepT.of t6).trans k7)
      refine i_asg ?_
      refine i_call ?_
      refine i_cons ?_
      refine i_var (by with_unfolding_all rfl) ?_
      refine i_cons ?_
      refine i_call ?_
      refine i_cons ?_
      refine i_var (by with_unfolding_all rfl) ?_
      refine i_nil ?_
      refine ⟨rfl, l1, L1, 60, 10 ^ 12, rfl, .of el17, R17, G1, sml60 (by omega), fun w H8 s8 e8 => ?_⟩
      refine i_nil ?_
      have gW : ZD.Gd 60 (6 * 10 ^ 12) (ZD.sm (ab L1)) := (gl_sm G1).mono (by rw [ab_len]; exact Nat.mul_le_mul_right _ len1)
      refine ⟨rfl, l2, w, L2, _, rfl, s8 _ _ el27, R27.keep (.of s8), n2, len2, G2, e8, gW, fun m2 H9 M2 hm2 s9 em2 RM hab => ?_⟩
      obtain ⟨D, M, GA, GB, hs, eqs⟩ := scaled_ok G1 G2 len1 len2 n1 n2 hab
      have lM : M2.length = L2.length := by
        have := congrArg List.length hab
        unfold scl at this
        rw [List.length_map, ab_len, ab_len] at this
        exact this
      have t9 := s8.trans s9
      refine i_gname (by with_unfolding_all rfl) (tail _ _ ⟨m2, M2, D, M, rfl, sm7.trans t9, t9 _ _ el17, em2, R17.keep (.of t9), RM, GA, GB, hs, by omega, fun ne => absurd eqs ne⟩)
    · rintro σ H5 ⟨m2, M2, D, M, rfl, sm5, el5, em5, R15, RM5, GA, GB, hs, lM, hb⟩
      walk_at "rd"
      refine ⟨rfl, l1, m2, L1, M2, D, M, rfl, el5, em5, R15, RM5, GA, GB, hs, len1, lM, fun dl H6 s6 hdp hxs => ?_⟩
      walk_at "rd"
      refine i_lst1 (Nat.le_of_ble_eq_true rfl) fun z7 H7 hz7 s7 e7 o7 => ?_
      have t7 := s6.trans s7
      have hRow : ∀ (j : Nat) (x : V), [V.ref l1, V.ref m2][j]? = some x → ∃ l L, x = V.ref l ∧ H7 l = some (.lst (rv L)) ∧ RowsL H7 L ∧ L.length ≤ 6 ∧ [ab L1, ab M2][j]? = some (ab L) ∧ GL D M (ab L) := by
        intro j x hj
        match j, hj with
        | 0, hj => cases hj; exact ⟨l1, L1, rfl, t7 _ _ el5, R15.keep (.of t7), len1, rfl, GA⟩
        | 1, hj => cases hj; exact ⟨m2, M2, rfl, t7 _ _ em5, RM5.keep (.of t7), lM, rfl, GB⟩
        | j + 2, hj => cases hj
      walk_at "rd"
      refine i_lcAD (H0 := H7) (fun D' j ys H8 => Same H7 H8 ∧ ∃ ps : List (Addr × List Rw), ys = ps.map (fun x => V.ref x.1) ∧ ps.length = j ∧ (∀ x ∈ ps, H8 x.1 = some (.lst (rv x.2)) ∧ RowsP CR H8 x.2 ∧ x.1 ≠ D') ∧ ps.map (fun x => ab x.2) = [ab L1, ab M2].take j) (.l e7) (Same.refl _)
        (fun D' H' hD s e o => ⟨s, [], rfl, rfl, fun x hx => absurd hx (by simp), rfl⟩) (fun D' i ys H8 h => h.1) ?_ ?_
      · rintro j x D' ys H8 hD hj eD ⟨s8, ps, rfl, hps, hp, hab⟩
        obtain ⟨l, L, rfl, hl, hRl, lenL, hjL, gL⟩ := hRow j x hj
        walk_at "rd"
        refine ⟨by with_unfolding_all rfl, ?_⟩
        walk_at "rd"
        refine i_lcA (H0 := H8) (fun i ys H9 => Same H8 H9 ∧ ∃ W, ys = rv W ∧ W.length = i ∧ RowsP CR H9 W ∧ ab W = (ab L).take i) (.l (s8 _ _ hl)) (Same.refl _) (fun D'' H' hD s e o => ⟨s, [], rfl, rfl, fun x hx => absurd hx (by simp), rfl⟩) (fun i ys H9 h => h.1) ?_ ?_
        · rintro u x D'' ys H9 hD'' hu eD'' ⟨s9, W, rfl, hW, hRW, habW⟩
          obtain ⟨y, lt, ey, rfl, hm⟩ := rv_get hu
          obtain ⟨g1, g2, g3⟩ := hRl y hm
          have s89 := s8.trans s9
          walk_at "rd"
          refine i_gtup (.of (s89 _ _ g1)) rfl ?_
          walk_at "rd"
          refine ⟨by with_unfolding_all rfl, ?_⟩
          walk_at "rd"
          refine i_p0 (.of (s89 _ _ g2)) ?_
          walk_at "rd"
          refine i_p1 (.of (s89 _ _ g2)) ?_
          walk_at "rd"
          have by1 : ZR.Bd 1000 y.p := gL.bd ⟨hs.1, hs.2.1, Nat.lt_of_le_of_lt (Nat.mul_le_mul_right D (Nat.mul_le_mul_right M (show L.length + 1 ≤ 20 by omega))) hs.2.2⟩ hm
          refine i_newR (ZR.den_ne y.p) (by1.d.mono (by decide)) fun rr H10 hrr s10 e10 => ?_
          rw [ZR.r_self] at e10
          walk_at "rd"
          refine i_tup1 (Nat.le_of_ble_eq_true rfl) fun q H11 hq s11 e11 o11 => ?_
          have s911 := s10.trans s11
          refine i_lcE (s911 _ _ eD'') (by rw [rv_len]; omega) fun H12 e12 o12 => ⟨fun b o eb => ?_, W ++ [⟨q, rr, y.v, y.d, y.p⟩], ?_, by rw [List.length_append, hW]; rfl, ?_, ?_⟩
          · rw [o12 b (ne_of_none eb hD'')]
            exact s911 _ _ (s9 _ _ eb)
          · unfold rv; rw [List.map_append]; rfl
          · have kp : KeepP H11 H12 := .but (s911 _ _ eD'') o12
            intro z hz
            rcases List.mem_append.mp hz with hz | hz
            · exact ((hRW.keep (.of s911)).keep kp) z hz
            · rw [List.mem_singleton.mp hz]
              exact ⟨kp.t _ _ e11, (e10.mono s11).keep kp, (g3.keep (.of (s89.trans s911))).keep kp.t⟩
          · rw [← ab_take, ab_snoc lt, ← ey]
            unfold ab at habW ⊢
            rw [List.map_append, List.map_take, ← habW]
            rfl
        · rintro D'' ys H9 hD'' eD'' ⟨s9, W, rfl, hW, hRW, habW⟩
          rw [rv_len, ← ab_len L, List.take_length] at habW
          have eD9 := s9 _ _ eD
          refine i_lcE eD9 (by rw [List.length_map, hps]; have := (List.getElem?_eq_some_iff.mp hj).1; simp at this; omega) fun H12 e12 o12 => ⟨fun b o eb => ?_, ps ++ [(D'', W)], ?_, by rw [List.length_append, hps]; rfl, ?_, ?_⟩
          · rw [o12 b (ne_of_none eb hD)]
            exact s9 _ _ (s8 _ _ eb)
          · rw [List.map_append]; rfl
          · have kp : KeepP H9 H12 := .but eD9 o12
            intro z hz
            rcases List.mem_append.mp hz with hz | hz
            · obtain ⟨p1, p2, p3⟩ := hp z hz
              exact ⟨by rw [o12 _ p3]; exact s9 _ _ p1, (p2.keep (.of s9)).keep kp, p3⟩
            · rw [List.mem_singleton.mp hz]
              have nD : D'' ≠ D' := fun z => by rw [z, eD] at hD''; cases hD''
              exact ⟨by show H12 D'' = _; rw [o12 _ nD]; exact eD'', hRW.keep kp, nD⟩
          · rw [List.map_append, hab, List.take_add_one, hjL, ← habW]
            rfl
      rintro z8 ys H8 hz8 e8 ⟨s8, ps, rfl, hps, hp, hab⟩
      obtain ⟨q1, W1, q2, W2, rfl⟩ : ∃ q1 W1 q2 W2, ps = [(q1, W1), (q2, W2)] := by
        have : ps.length = 2 := hps
        match ps, this with
        | [(q1, W1), (q2, W2)], _ => exact ⟨q1, W1, q2, W2, rfl⟩
      have hab' : [ab W1, ab W2] = [ab L1, ab M2] := hab
      injection hab' with ab1 hab'
      injection hab' with ab2 _
      obtain ⟨eq1, RW1, _⟩ := hp (q1, W1) (by simp)
      obtain ⟨eq2, RW2, _⟩ := hp (q2, W2) (by simp)
      have e8 : H8 z8 = some (.lst [.ref q1, .ref q2]) := e8
      clear hab hp hps
      have w1 : W1.length ≤ 6 := by rw [← ab_len, ab1, ab_len]; exact len1
      have w2 : W2.length ≤ 6 := by rw [← ab_len, ab2, ab_len]; exact lM
      walk_at "rd"
      refine i_lcAD (H0 := H8) (fun D' j ys H9 => Same H8 H9 ∧ ∃ ks : List (Addr × Addr), ys = ks.map (fun x => V.ref x.1) ∧ ks.map (·.2) = [q1, q2].take j ∧ ∀ x ∈ ks, x.1 ≠ D' ∧ x.1 ≠ x.2 ∧ ∃ W, H8 x.2 = some (.lst (rv W)) ∧ H9 x.1 = some (.lst (rv W))) (.l e8) (Same.refl _)
        (fun D' H' hD s e o => ⟨s, [], rfl, rfl, fun x hx => absurd hx (by simp)⟩) (fun D' i ys H8 h => h.1) ?_ ?_
      · rintro j x D' ys H9 hD hj eD ⟨s9, ks, rfl, hks, hk⟩
        obtain ⟨q, W, rfl, hq, hjq⟩ : ∃ q W, x = V.ref q ∧ H8 q = some (.lst (rv W)) ∧ [q1, q2][j]? = some q := by
          match j, hj with
          | 0, hj => cases hj; exact ⟨q1, W1, rfl, eq1, rfl⟩
          | 1, hj => cases hj; exact ⟨q2, W2, rfl, eq2, rfl⟩
          | j + 2, hj => cases hj
        walk_at "rd"
        refine ⟨by with_unfolding_all rfl, ?_⟩
        walk_at "rd"
        refine i_listA (.l (s9 _ _ hq)) fun c H10 hc s10 e10 o10 => ?_
        have eD10 := s10 _ _ eD
        have lk : ks.length ≤ 2 := by
          have := congrArg List.length hks
          rw [List.length_map, List.length_take] at this
          simp at this
          omega
        refine i_lcE eD10 (by rw [List.length_map]; omega) fun H12 e12 o12 => ⟨fun b o eb => ?_, ks ++ [(c, q)], ?_, ?_, fun z hz => ?_⟩
        · rw [o12 b (ne_of_none eb hD)]
          exact s10 _ _ (s9 _ _ eb)
        · rw [List.map_append]; rfl
        · rw [List.map_append, hks, List.take_add_one, hjq]
          rfl
        · rcases List.mem_append.mp hz with hz | hz
          · obtain ⟨k1, k2, Wz, k3, k4⟩ := hk z hz
            exact ⟨k1, k2, Wz, k3, by rw [o12 _ k1]; exact s10 _ _ k4⟩
          · rw [List.mem_singleton.mp hz]
            have nD : c ≠ D' := fun z => by rw [z, eD] at hc; cases hc
            have nq : c ≠ q := fun z => by rw [z, s9 _ _ hq] at hc; cases hc
            exact ⟨nD, nq, W, hq, by show H12 c = _; rw [o12 _ nD]; exact e10⟩
      rintro k9 ys H9 hk9 e9 ⟨s9, ks, rfl, hks, hk⟩
      walk_at "rd"
      have e89 := s9 _ _ e8
      refine i_ix0 (.of e89) ?_
      walk_at "rd"
      refine i_ix1 (.of e89) ?_
      walk_at "rd"
      have hb' : ZD.sm (ab W2) ≠ ZD.sm (ab W1) → (ZD.sm (ab W2)).num.natAbs < 10 ^ 30 ∧ (ZD.sm (ab W2)).den < 10 ^ 30 := by rw [ab1, ab2]; exact hb
      have RW19 := RW1.keep (.of s9)
      have RW29 := RW2.keep (.of s9)
      have GA' : GL D M (ab W1) := by rw [ab1]; exact GA
      have GB' : GL D M (ab W2) := by rw [ab2]; exact GB
      have t69 : Same H6 H9 := (s7.trans s8).trans s9
      have ld := lay_due (rowsL_lay R15) (rowsL_lay RM5)
      have rf := eqv_refl _ ld.1
      have sh := ld.shaped (by decide)
      refine ⟨rfl, q1, q2, W1, W2, D, M, rfl, .l (s9 _ _ eq1), .l (s9 _ _ eq2), RW19, RW29, GA', GB', hs, w1, w2, hb', fun r1 H10 s10 d10 => ?_⟩
      rw [ab1, ab2] at d10
      walk_at "rd"
      refine ⟨_, _, d10, dpMono (t69.trans s10) hdp, sh, sh, ?_⟩
      rw [rf]
      walk_at "rd"
      have e810 := s10 _ _ e89
      refine i_ix0 (.of e810) ?_
      walk_at "rd"
      refine i_tupL (.of (s10 _ _ (s9 _ _ eq1))) fun u1 H11 hu1 s11 eu1 ou1 => ?_
      walk_at "rd"
      refine i_ix1 (.of (s11 _ _ e810)) ?_
      walk_at "rd"
      refine i_tupL (.of (s11 _ _ (s10 _ _ (s9 _ _ eq2)))) fun u2 H12 hu2 s12 eu2 ou2 => ?_
      walk_at "rd"
      have t12 := (s10.trans s11).trans s12
      refine ⟨rfl, u1, u2, W1, W2, D, M, rfl, .t (s12 _ _ eu1), .t eu2, RW19.keep (.of t12), RW29.keep (.of t12), GA', GB', hs, w1, w2, hb', fun r2 H13 s13 d13 => ?_⟩
      rw [ab1, ab2] at d13
      walk_at "rd"
      have t13 := t12.trans s13
      refine ⟨_, _, d13, dpMono (t69.trans t13) hdp, sh, sh, ?_⟩
      rw [rf]
      walk_at "rd"
      have hks : ks.map (·.2) = [q1, q2] := hks
      obtain ⟨c1, c2, rfl⟩ : ∃ c1 c2, ks = [(c1, q1), (c2, q2)] := by
        match ks, hks with
        | [(c1, u), (c2, v)], h => cases h; exact ⟨c1, c2, rfl⟩
      obtain ⟨_, n1, X1, x1, y1⟩ := hk (c1, q1) (by simp)
      obtain ⟨_, n2, X2, x2, y2⟩ := hk (c2, q2) (by simp)
      have x1 : H8 q1 = _ := x1
      have x2 : H8 q2 = _ := x2
      have refs : ∀ (W : List Rw), ∀ z ∈ rv W, ∃ r, z = V.ref r := fun W z hz => by
        obtain ⟨u, _, rfl⟩ := List.mem_map.mp hz
        exact ⟨_, rfl⟩
      refine ⟨z8, k9, [.ref q1, .ref q2], [.ref c1, .ref c2], rfl, rfl, t13 _ _ e89, t13 _ _ e9, rfl, fun j u v hu hv => ?_, ?_⟩
      · match j, hu, hv with
        | 0, hu, hv =>
          cases hu; cases hv
          exact ⟨q1, c1, rv X1, rfl, rfl, Ne.symm n1, t13 _ _ (s9 _ _ x1), t13 _ _ y1, refs X1⟩
        | 1, hu, hv =>
          cases hu; cases hv
          exact ⟨q2, c2, rv X2, rfl, rfl, Ne.symm n2, t13 _ _ (s9 _ _ x2), t13 _ _ y2, refs X2⟩
        | j + 2, hu, hv => cases hu
      walk_at "rd"
      have t613 := t69.trans t13
      have fin : Same H H13 := sm5.trans (s6.trans t613)
      obtain ⟨xs, exs, hxs⟩ := hxs
      rcases hxs with ⟨_, r, ys, rfl, er, ly⟩ | ⟨_, r, rfl⟩
      · refine i_ix0 (.of (t613 _ _ exs)) ?_
        walk_at "rd"
        refine i_dec (fun _ => ?_) (fun n => absurd rfl n)
        walk_at "rd"
        refine i_ix1 (.of (t613 _ _ exs)) ?_
        walk_at "rd"
        refine i_lenL (.of (t613 _ _ er)) ?_
        walk_at "rd"
        refine i_lenL (.of ((s6.trans t613) _ _ el5)) ?_
        rw [rv_len]
        walk_at "rd"
        refine i_lenL (.of ((s6.trans t613) _ _ em5)) ?_
        rw [rv_len]
        walk_at "rd"
        refine ⟨_, _, rfl, ?_⟩
        walk_at "rd"
        refine i_dec (fun lt => ?_) (fun _ => ?_)
        · exfalso
          revert lt
          split <;> omega
        · walk_at "rd"
          exact ⟨_, _, _, _, _, _, _, _, _, _, rfl, fin⟩
      · refine i_ix0 (.of (t613 _ _ exs)) ?_
        walk_at "rd"
        refine i_dec (fun n => absurd n (by decide +kernel)) (fun _ => ?_)
        walk_at "rd"
        exact ⟨_, _, _, _, _, _, _, _, _, _, rfl, fin⟩
  · rintro σ H1 ⟨v1, v2, v3, v4, v5, v6, v7, v8, v9, v10, rfl, sm⟩
    walk_at "rd"
    exact k _
theorem mk_law {K : PySem.W.Frag} {H : Hp} {a : Addr} {ns : List Int} (hS : SqL K H a (ns.map V.int)) (hl : ns.length ≤ 63) : spLaw K [.ref a] H (fun v _ => v = .bl true) fun _ _ _ => False := ⟨rfl, a, ns, rfl, hS, hl, fun _ => rfl⟩
theorem all_mk {P : Program} {w : World} {K : PySem.W.Frag} {h : Heap} {mg : Str → Option Value} {fa : Addr} (X : K.In h) (G : h.Ns mainGlobals mg) (hfa : mg "law" = some (.ref fa))
    {CR : Addr}
    {CB : Addr}
    {CX : Addr}
    {CT : Addr}
    {nm_BadNumber : Str}
    {q_BadNumber : Str}
    {N_BadNumber : Addr}
    {bs_BadNumber : List Value}
    {sn_BadNumber : List Str}
    {sub_BadNumber : List Value}
    {ab_BadNumber : Bool}
    {col_BadNumber : Option Bool}
    {dd_BadNumber : Option Addr}
    {m0_BadNumber : Option Value}
    {m1_BadNumber : Option Value}
    {m2_BadNumber : Option Value}
    {m3_BadNumber : Option Value}
    {m5_BadNumber : Option Value}
    {nm_BadShares : Str}
    {q_BadShares : Str}
    {N_BadShares : Addr}
    {bs_BadShares : List Value}
    {sn_BadShares : List Str}
    {sub_BadShares : List Value}
    {ab_BadShares : Bool}
    {col_BadShares : Option Bool}
    {dd_BadShares : Option Addr}
    {m0_BadShares : Option Value}
    {m1_BadShares : Option Value}
    {m2_BadShares : Option Value}
    {m3_BadShares : Option Value}
    {m5_BadShares : Option Value}
    {f0 : Addr} {od0 an0 : Option Addr} {sl0 : Array (Option Value)} {oc0 kV0 dc0 pm0 cd0 ct0 : Value}
    {f1 : Addr} {od1 an1 : Option Addr} {sl1 : Array (Option Value)} {oc1 kV1 dc1 pm1 cd1 ct1 : Value}
    {f2 : Addr} {od2 an2 : Option Addr} {sl2 : Array (Option Value)} {oc2 kV2 dc2 pm2 cd2 ct2 : Value}
    {f3 : Addr} {od3 an3 : Option Addr} {sl3 : Array (Option Value)} {oc3 kV3 dc3 pm3 cd3 ct3 : Value}
    {f4 : Addr} {od4 an4 : Option Addr} {sl4 : Array (Option Value)} {oc4 kV4 dc4 pm4 cd4 ct4 : Value}
    {f5 : Addr} {od5 an5 : Option Addr} {sl5 : Array (Option Value)} {oc5 kV5 dc5 pm5 cd5 ct5 : Value}
    {f6 : Addr} {od6 an6 : Option Addr} {sl6 : Array (Option Value)} {oc6 kV6 dc6 pm6 cd6 ct6 : Value}
    {p6 : Addr} {rs6 : List Value}
    {f7 : Addr} {od7 an7 : Option Addr} {sl7 : Array (Option Value)} {oc7 kV7 dc7 pm7 cd7 ct7 : Value}
    {f8 : Addr} {od8 an8 : Option Addr} {sl8 : Array (Option Value)} {oc8 kV8 dc8 pm8 cd8 ct8 : Value}
    {f9 : Addr} {od9 an9 : Option Addr} {sl9 : Array (Option Value)} {oc9 kV9 dc9 pm9 cd9 ct9 : Value}
    {f10 : Addr} {od10 an10 : Option Addr} {sl10 : Array (Option Value)} {oc10 kV10 dc10 pm10 cd10 ct10 : Value}
    {f11 : Addr} {od11 an11 : Option Addr} {sl11 : Array (Option Value)} {oc11 kV11 dc11 pm11 cd11 ct11 : Value}
    {f12 : Addr} {od12 an12 : Option Addr} {sl12 : Array (Option Value)} {oc12 kV12 dc12 pm12 cd12 ct12 : Value}
    {f13 : Addr} {od13 an13 : Option Addr} {sl13 : Array (Option Value)} {oc13 kV13 dc13 pm13 cd13 ct13 : Value}
    {f14 : Addr} {od14 an14 : Option Addr} {sl14 : Array (Option Value)} {oc14 kV14 dc14 pm14 cd14 ct14 : Value}
    {f15 : Addr} {od15 an15 : Option Addr} {sl15 : Array (Option Value)} {oc15 kV15 dc15 pm15 cd15 ct15 : Value}
    {f16 : Addr} {od16 an16 : Option Addr} {sl16 : Array (Option Value)} {oc16 kV16 dc16 pm16 cd16 ct16 : Value}
    {f17 : Addr} {od17 an17 : Option Addr} {sl17 : Array (Option Value)} {oc17 kV17 dc17 pm17 cd17 ct17 : Value}
    {f18 : Addr} {od18 an18 : Option Addr} {sl18 : Array (Option Value)} {oc18 kV18 dc18 pm18 cd18 ct18 : Value}
    {f19 : Addr} {od19 an19 : Option Addr} {sl19 : Array (Option Value)} {oc19 kV19 dc19 pm19 cd19 ct19 : Value}
    {f20 : Addr} {od20 an20 : Option Addr} {sl20 : Array (Option Value)} {oc20 kV20 dc20 pm20 cd20 ct20 : Value}
    {f21 : Addr} {od21 an21 : Option Addr} {sl21 : Array (Option Value)} {oc21 kV21 dc21 pm21 cd21 ct21 : Value}
    {f22 : Addr} {od22 an22 : Option Addr} {sl22 : Array (Option Value)} {oc22 kV22 dc22 pm22 cd22 ct22 : Value}
    {f23 : Addr} {od23 an23 : Option Addr} {sl23 : Array (Option Value)} {oc23 kV23 dc23 pm23 cd23 ct23 : Value}
    {f24 : Addr} {od24 an24 : Option Addr} {sl24 : Array (Option Value)} {oc24 kV24 dc24 pm24 cd24 ct24 : Value}
    {f25 : Addr} {od25 an25 : Option Addr} {sl25 : Array (Option Value)} {oc25 kV25 dc25 pm25 cd25 ct25 : Value}
    {f26 : Addr} {od26 an26 : Option Addr} {sl26 : Array (Option Value)} {oc26 kV26 dc26 pm26 cd26 ct26 : Value}
    {f27 : Addr} {od27 an27 : Option Addr} {sl27 : Array (Option Value)} {oc27 kV27 dc27 pm27 cd27 ct27 : Value}
    (aC_Ratio : PySem.W.nsIn K mainGlobals "Ratio" = some (some (.ref CR)))
    (aC_BadNumber : PySem.W.nsIn K mainGlobals "BadNumber" = some (some (.ref CB)))
    (aC_BadShares : PySem.W.nsIn K mainGlobals "BadShares" = some (some (.ref CX)))
    (aC_ThrowError : PySem.W.nsIn K mainGlobals "ThrowError" = some (some (.ref CT)))
    (pg_Ratio : PySem.W.plainGet K CR Str.empty = true)
    (hd_Ratio : PySem.W.hasDictIn K CR = true)
    (po_Ratio : PySem.W.plainOver K CR = true)
    (sa_Ratio : PySem.W.findIn K (.ref CR) "__setattr__" = some (some (.builtin "object.__setattr__")))
    (ha_Ratio : PySem.W.findIn K (.ref CR) "__class__" = some (some (.builtin "object.__class__")))
    (hm_Ratio : PySem.W.mroIn K CR (.type "object") = some true)
    (mk_Ratio : PySem.W.makesIn K CR = true)
    (kc_Ratio : PySem.W.keepIn K (.ref CR) = true)
    (sf_Ratio : PySem.W.selfFirst K CR = true)
    (iC_Ratio : PySem.W.isClsIn K CR = true)
    (tC_Ratio : PySem.W.typeIn K (.ref CR) = some (.type "type"))
    (ne_Ratio : PySem.W.findIn K (.ref CR) "__ne__" = some (some (.builtin "object.__ne__")))
    (ob_Ratio : PySem.W.subIn K (.ref CR) (.type "object") = some true)
    (hn : PySem.W.specialIn K (.builtin "object.__class__") "__get__" = some (some (.builtin "getset_descriptor.__get__")))
    (htk : PySem.W.takesIn K (.builtin "object.__class__") = some true)
    (xL_BadNumber : K.lookup CB = some (excClassObj nm_BadNumber q_BadNumber CB N_BadNumber bs_BadNumber [.ref CT, .type "ValueError", .type "Exception", .type "BaseException", .type "object"] true sn_BadNumber sub_BadNumber ab_BadNumber col_BadNumber dd_BadNumber m0_BadNumber m1_BadNumber m2_BadNumber m3_BadNumber m5_BadNumber "ValueError.__new__"))
    (sa_BadNumber : PySem.W.findIn K (.ref CB) "__setattr__" = some (some (.builtin "object.__setattr__")))
    (ga_BadNumber : PySem.W.findIn K (.ref CB) "__getattribute__" = some (some (.builtin "BaseException.__getattribute__")))
    (gg_BadNumber : PySem.W.findIn K (.ref CB) "__getattr__" = some none)
    (kC_BadNumber : PySem.W.keepIn K (.ref CB) = true)
    (eC_BadNumber : PySem.W.subIn K (.ref CB) (.type "BaseException") = some true)
    (tC_BadNumber : PySem.W.typeIn K (.ref CB) = some (.type "type"))
    (hC_BadNumber : PySem.W.hasDictIn K CB = true)
    (iC_BadNumber : PySem.W.isClsIn K CB = true)
    (sC_BadNumber : PySem.W.subIn K (.ref CB) (.ref CB) = some true)
    (xL_BadShares : K.lookup CX = some (excClassObj nm_BadShares q_BadShares CX N_BadShares bs_BadShares [.ref CT, .type "ValueError", .type "Exception", .type "BaseException", .type "object"] true sn_BadShares sub_BadShares ab_BadShares col_BadShares dd_BadShares m0_BadShares m1_BadShares m2_BadShares m3_BadShares m5_BadShares "ValueError.__new__"))
    (sa_BadShares : PySem.W.findIn K (.ref CX) "__setattr__" = some (some (.builtin "object.__setattr__")))
    (ga_BadShares : PySem.W.findIn K (.ref CX) "__getattribute__" = some (some (.builtin "BaseException.__getattribute__")))
    (gg_BadShares : PySem.W.findIn K (.ref CX) "__getattr__" = some none)
    (kC_BadShares : PySem.W.keepIn K (.ref CX) = true)
    (eC_BadShares : PySem.W.subIn K (.ref CX) (.type "BaseException") = some true)
    (tC_BadShares : PySem.W.typeIn K (.ref CX) = some (.type "type"))
    (hC_BadShares : PySem.W.hasDictIn K CX = true)
    (iC_BadShares : PySem.W.isClsIn K CX = true)
    (sC_BadShares : PySem.W.subIn K (.ref CX) (.ref CX) = some true)
    (rd_Ratio : PySem.W.readsIn K CR (.type "type") = true)
    (rg_Ratio : PySem.W.specialIn K (.ref CR) "__getattribute__" = some (some (.builtin "type.__getattribute__")))
    (rd_ThrowError : PySem.W.readsIn K CT (.type "type") = true)
    (rg_ThrowError : PySem.W.specialIn K (.ref CT) "__getattribute__" = some (some (.builtin "type.__getattribute__")))
    (rv_ThrowError : PySem.W.findCls K (.ref CT) (.type "type") "__init__" = some (.val (.builtin "ValueError.__init__")))
    (a0 : PySem.W.nsIn K mainGlobals "_shown" = some (some (.ref f0)))
    (l0 : K.lookup f0 = some ⟨oc0, od0, .func (PySem.W.fnOf "_shown" "_shown" (defArgs s__shown) (defBody s__shown) (defScope s__shown) .none kV0 dc0 pm0 an0 cd0 ct0), sl0⟩)
    (c0 : PySem.W.codeIn K cd0 "_shown" = true)
    (k0 : PySem.W.keepIn K (.ref f0) = true)
    (a1 : PySem.W.findIn K (.ref CB) "__init__" = some (some (.ref f1)))
    (t1 : PySem.W.typeIn K (.ref f1) = some (.type "function"))
    (l1 : K.lookup f1 = some ⟨oc1, od1, .func (PySem.W.fnOf "__init__" "BadNumber.__init__" (defArgs s_BadNumber___init__) (defBody s_BadNumber___init__) (defScope s_BadNumber___init__) .none kV1 dc1 pm1 an1 cd1 ct1), sl1⟩)
    (c1 : PySem.W.codeIn K cd1 "BadNumber.__init__" = true)
    (k1 : PySem.W.keepIn K (.ref f1) = true)
    (a2 : PySem.W.nsIn K mainGlobals "decimal" = some (some (.ref f2)))
    (l2 : K.lookup f2 = some ⟨oc2, od2, .func (PySem.W.fnOf "decimal" "decimal" (defArgs s_decimal) (defBody s_decimal) (defScope s_decimal) .none kV2 dc2 pm2 an2 cd2 ct2), sl2⟩)
    (c2 : PySem.W.codeIn K cd2 "decimal" = true)
    (k2 : PySem.W.keepIn K (.ref f2) = true)
    (a3 : PySem.W.findIn K (.ref CR) "__str__" = some (some (.ref f3)))
    (i3 : PySem.W.isFn K (.ref f3) = true)
    (l3 : K.lookup f3 = some ⟨oc3, od3, .func (PySem.W.fnOf "__str__" "Ratio.__str__" (defArgs s_Ratio___str__) (defBody s_Ratio___str__) (defScope s_Ratio___str__) .none kV3 dc3 pm3 an3 cd3 ct3), sl3⟩)
    (c3 : PySem.W.codeIn K cd3 "Ratio.__str__" = true)
    (k3 : PySem.W.keepIn K (.ref f3) = true)
    (a4 : PySem.W.findIn K (.ref CX) "__init__" = some (some (.ref f4)))
    (t4 : PySem.W.typeIn K (.ref f4) = some (.type "function"))
    (l4 : K.lookup f4 = some ⟨oc4, od4, .func (PySem.W.fnOf "__init__" "BadShares.__init__" (defArgs s_BadShares___init__) (defBody s_BadShares___init__) (defScope s_BadShares___init__) .none kV4 dc4 pm4 an4 cd4 ct4), sl4⟩)
    (c4 : PySem.W.codeIn K cd4 "BadShares.__init__" = true)
    (k4 : PySem.W.keepIn K (.ref f4) = true)
    (a5 : PySem.W.findIn K (.ref CR) "__init__" = some (some (.ref f5)))
    (i5 : PySem.W.isFn K (.ref f5) = true)
    (l5 : K.lookup f5 = some ⟨oc5, od5, .func (PySem.W.fnOf "__init__" "Ratio.__init__" (defArgs s_Ratio___init__) (defBody s_Ratio___init__) (defScope s_Ratio___init__) .none kV5 dc5 pm5 an5 cd5 ct5), sl5⟩)
    (c5 : PySem.W.codeIn K cd5 "Ratio.__init__" = true)
    (k5 : PySem.W.keepIn K (.ref f5) = true)
    (a6 : PySem.W.findCls K (.ref CR) (.type "type") "whole" = some (.get (.builtin "classmethod.__get__") (.ref p6) .none (.ref CR)))
    (r6 : PySem.W.recIn K p6 "classmethod" = some (.ref f6 :: rs6))
    (i6 : PySem.W.fnIn K f6 = true)
    (l6 : K.lookup f6 = some ⟨oc6, od6, .func (PySem.W.fnOf "whole" "Ratio.whole" (defArgs s_Ratio_whole) (defBody s_Ratio_whole) (defScope s_Ratio_whole) .none kV6 dc6 pm6 an6 cd6 ct6), sl6⟩)
    (c6 : PySem.W.codeIn K cd6 "Ratio.whole" = true)
    (k6 : PySem.W.keepIn K (.ref f6) = true)
    (a7 : PySem.W.findIn K (.ref CR) "under" = some (some (.ref f7)))
    (i7 : PySem.W.isFn K (.ref f7) = true)
    (l7 : K.lookup f7 = some ⟨oc7, od7, .func (PySem.W.fnOf "under" "Ratio.under" (defArgs s_Ratio_under) (defBody s_Ratio_under) (defScope s_Ratio_under) .none kV7 dc7 pm7 an7 cd7 ct7), sl7⟩)
    (c7 : PySem.W.codeIn K cd7 "Ratio.under" = true)
    (k7 : PySem.W.keepIn K (.ref f7) = true)
    (a8 : PySem.W.findIn K (.ref CR) "__add__" = some (some (.ref f8)))
    (i8 : PySem.W.isFn K (.ref f8) = true)
    (l8 : K.lookup f8 = some ⟨oc8, od8, .func (PySem.W.fnOf "__add__" "Ratio.__add__" (defArgs s_Ratio___add__) (defBody s_Ratio___add__) (defScope s_Ratio___add__) .none kV8 dc8 pm8 an8 cd8 ct8), sl8⟩)
    (c8 : PySem.W.codeIn K cd8 "Ratio.__add__" = true)
    (k8 : PySem.W.keepIn K (.ref f8) = true)
    (a9 : PySem.W.findIn K (.ref CR) "__sub__" = some (some (.ref f9)))
    (i9 : PySem.W.isFn K (.ref f9) = true)
    (l9 : K.lookup f9 = some ⟨oc9, od9, .func (PySem.W.fnOf "__sub__" "Ratio.__sub__" (defArgs s_Ratio___sub__) (defBody s_Ratio___sub__) (defScope s_Ratio___sub__) .none kV9 dc9 pm9 an9 cd9 ct9), sl9⟩)
    (c9 : PySem.W.codeIn K cd9 "Ratio.__sub__" = true)
    (k9 : PySem.W.keepIn K (.ref f9) = true)
    (a10 : PySem.W.findIn K (.ref CR) "__eq__" = some (some (.ref f10)))
    (i10 : PySem.W.isFn K (.ref f10) = true)
    (l10 : K.lookup f10 = some ⟨oc10, od10, .func (PySem.W.fnOf "__eq__" "Ratio.__eq__" (defArgs s_Ratio___eq__) (defBody s_Ratio___eq__) (defScope s_Ratio___eq__) .none kV10 dc10 pm10 an10 cd10 ct10), sl10⟩)
    (c10 : PySem.W.codeIn K cd10 "Ratio.__eq__" = true)
    (k10 : PySem.W.keepIn K (.ref f10) = true)
    (a11 : PySem.W.findIn K (.ref CR) "__bool__" = some (some (.ref f11)))
    (i11 : PySem.W.isFn K (.ref f11) = true)
    (l11 : K.lookup f11 = some ⟨oc11, od11, .func (PySem.W.fnOf "__bool__" "Ratio.__bool__" (defArgs s_Ratio___bool__) (defBody s_Ratio___bool__) (defScope s_Ratio___bool__) .none kV11 dc11 pm11 an11 cd11 ct11), sl11⟩)
    (c11 : PySem.W.codeIn K cd11 "Ratio.__bool__" = true)
    (k11 : PySem.W.keepIn K (.ref f11) = true)
    (a12 : PySem.W.nsIn K mainGlobals "total" = some (some (.ref f12)))
    (l12 : K.lookup f12 = some ⟨oc12, od12, .func (PySem.W.fnOf "total" "total" (defArgs s_total) (defBody s_total) (defScope s_total) .none kV12 dc12 pm12 an12 cd12 ct12), sl12⟩)
    (c12 : PySem.W.codeIn K cd12 "total" = true)
    (k12 : PySem.W.keepIn K (.ref f12) = true)
    (a13 : PySem.W.nsIn K mainGlobals "dealt" = some (some (.ref f13)))
    (l13 : K.lookup f13 = some ⟨oc13, od13, .func (PySem.W.fnOf "dealt" "dealt" (defArgs s_dealt) (defBody s_dealt) (defScope s_dealt) .none kV13 dc13 pm13 an13 cd13 ct13), sl13⟩)
    (c13 : PySem.W.codeIn K cd13 "dealt" = true)
    (k13 : PySem.W.keepIn K (.ref f13) = true)
    (a14 : PySem.W.nsIn K mainGlobals "_law_pool" = some (some (.ref f14)))
    (l14 : K.lookup f14 = some ⟨oc14, od14, .func (PySem.W.fnOf "_law_pool" "_law_pool" (defArgs s__law_pool) (defBody s__law_pool) (defScope s__law_pool) .none kV14 dc14 pm14 an14 cd14 ct14), sl14⟩)
    (c14 : PySem.W.codeIn K cd14 "_law_pool" = true)
    (k14 : PySem.W.keepIn K (.ref f14) = true)
    (a15 : PySem.W.nsIn K mainGlobals "_law_take" = some (some (.ref f15)))
    (l15 : K.lookup f15 = some ⟨oc15, od15, .func (PySem.W.fnOf "_law_take" "_law_take" (defArgs s__law_take) (defBody s__law_take) (defScope s__law_take) .none kV15 dc15 pm15 an15 cd15 ct15), sl15⟩)
    (c15 : PySem.W.codeIn K cd15 "_law_take" = true)
    (k15 : PySem.W.keepIn K (.ref f15) = true)
    (a16 : PySem.W.nsIn K mainGlobals "_law_cell" = some (some (.ref f16)))
    (l16 : K.lookup f16 = some ⟨oc16, od16, .func (PySem.W.fnOf "_law_cell" "_law_cell" (defArgs s__law_cell) (defBody s__law_cell) (defScope s__law_cell) .none kV16 dc16 pm16 an16 cd16 ct16), sl16⟩)
    (c16 : PySem.W.codeIn K cd16 "_law_cell" = true)
    (k16 : PySem.W.keepIn K (.ref f16) = true)
    (a17 : PySem.W.nsIn K mainGlobals "_law_frac" = some (some (.ref f17)))
    (l17 : K.lookup f17 = some ⟨oc17, od17, .func (PySem.W.fnOf "_law_frac" "_law_frac" (defArgs s__law_frac) (defBody s__law_frac) (defScope s__law_frac) .none kV17 dc17 pm17 an17 cd17 ct17), sl17⟩)
    (c17 : PySem.W.codeIn K cd17 "_law_frac" = true)
    (k17 : PySem.W.keepIn K (.ref f17) = true)
    (a18 : PySem.W.nsIn K mainGlobals "_law_add" = some (some (.ref f18)))
    (l18 : K.lookup f18 = some ⟨oc18, od18, .func (PySem.W.fnOf "_law_add" "_law_add" (defArgs s__law_add) (defBody s__law_add) (defScope s__law_add) .none kV18 dc18 pm18 an18 cd18 ct18), sl18⟩)
    (c18 : PySem.W.codeIn K cd18 "_law_add" = true)
    (k18 : PySem.W.keepIn K (.ref f18) = true)
    (a19 : PySem.W.nsIn K mainGlobals "_law_mul" = some (some (.ref f19)))
    (l19 : K.lookup f19 = some ⟨oc19, od19, .func (PySem.W.fnOf "_law_mul" "_law_mul" (defArgs s__law_mul) (defBody s__law_mul) (defScope s__law_mul) .none kV19 dc19 pm19 an19 cd19 ct19), sl19⟩)
    (c19 : PySem.W.codeIn K cd19 "_law_mul" = true)
    (k19 : PySem.W.keepIn K (.ref f19) = true)
    (a20 : PySem.W.nsIn K mainGlobals "_law_of" = some (some (.ref f20)))
    (l20 : K.lookup f20 = some ⟨oc20, od20, .func (PySem.W.fnOf "_law_of" "_law_of" (defArgs s__law_of) (defBody s__law_of) (defScope s__law_of) .none kV20 dc20 pm20 an20 cd20 ct20), sl20⟩)
    (c20 : PySem.W.codeIn K cd20 "_law_of" = true)
    (k20 : PySem.W.keepIn K (.ref f20) = true)
    (a21 : PySem.W.nsIn K mainGlobals "_law_row" = some (some (.ref f21)))
    (l21 : K.lookup f21 = some ⟨oc21, od21, .func (PySem.W.fnOf "_law_row" "_law_row" (defArgs s__law_row) (defBody s__law_row) (defScope s__law_row) .none kV21 dc21 pm21 an21 cd21 ct21), sl21⟩)
    (c21 : PySem.W.codeIn K cd21 "_law_row" = true)
    (k21 : PySem.W.keepIn K (.ref f21) = true)
    (a22 : PySem.W.nsIn K mainGlobals "_law_sum" = some (some (.ref f22)))
    (l22 : K.lookup f22 = some ⟨oc22, od22, .func (PySem.W.fnOf "_law_sum" "_law_sum" (defArgs s__law_sum) (defBody s__law_sum) (defScope s__law_sum) .none kV22 dc22 pm22 an22 cd22 ct22), sl22⟩)
    (c22 : PySem.W.codeIn K cd22 "_law_sum" = true)
    (k22 : PySem.W.keepIn K (.ref f22) = true)
    (a23 : PySem.W.nsIn K mainGlobals "_law_scaled" = some (some (.ref f23)))
    (l23 : K.lookup f23 = some ⟨oc23, od23, .func (PySem.W.fnOf "_law_scaled" "_law_scaled" (defArgs s__law_scaled) (defBody s__law_scaled) (defScope s__law_scaled) .none kV23 dc23 pm23 an23 cd23 ct23), sl23⟩)
    (c23 : PySem.W.codeIn K cd23 "_law_scaled" = true)
    (k23 : PySem.W.keepIn K (.ref f23) = true)
    (a24 : PySem.W.nsIn K mainGlobals "_law_less" = some (some (.ref f24)))
    (l24 : K.lookup f24 = some ⟨oc24, od24, .func (PySem.W.fnOf "_law_less" "_law_less" (defArgs s__law_less) (defBody s__law_less) (defScope s__law_less) .none kV24 dc24 pm24 an24 cd24 ct24), sl24⟩)
    (c24 : PySem.W.codeIn K cd24 "_law_less" = true)
    (k24 : PySem.W.keepIn K (.ref f24) = true)
    (a25 : PySem.W.nsIn K mainGlobals "_law_due" = some (some (.ref f25)))
    (l25 : K.lookup f25 = some ⟨oc25, od25, .func (PySem.W.fnOf "_law_due" "_law_due" (defArgs s__law_due) (defBody s__law_due) (defScope s__law_due) .none kV25 dc25 pm25 an25 cd25 ct25), sl25⟩)
    (c25 : PySem.W.codeIn K cd25 "_law_due" = true)
    (k25 : PySem.W.keepIn K (.ref f25) = true)
    (a26 : PySem.W.nsIn K mainGlobals "_law_told" = some (some (.ref f26)))
    (l26 : K.lookup f26 = some ⟨oc26, od26, .func (PySem.W.fnOf "_law_told" "_law_told" (defArgs s__law_told) (defBody s__law_told) (defScope s__law_told) .none kV26 dc26 pm26 an26 cd26 ct26), sl26⟩)
    (c26 : PySem.W.codeIn K cd26 "_law_told" = true)
    (k26 : PySem.W.keepIn K (.ref f26) = true)
    (a27 : PySem.W.nsIn K mainGlobals "law" = some (some (.ref f27)))
    (l27 : K.lookup f27 = some ⟨oc27, od27, .func (PySem.W.fnOf "law" "law" (defArgs s_law) (defBody s_law) (defScope s_law) .none kV27 dc27 pm27 an27 cd27 ct27), sl27⟩)
    (c27 : PySem.W.codeIn K cd27 "law" = true)
    (k27 : PySem.W.keepIn K (.ref f27) = true)
    (z_abs : PySem.W.nsIn K mainGlobals "abs" = some none)
    (z_bool : PySem.W.nsIn K mainGlobals "bool" = some none)
    (z_divmod : PySem.W.nsIn K mainGlobals "divmod" = some none)
    (z_int : PySem.W.nsIn K mainGlobals "int" = some none)
    (z_isinstance : PySem.W.nsIn K mainGlobals "isinstance" = some none)
    (z_len : PySem.W.nsIn K mainGlobals "len" = some none)
    (z_list : PySem.W.nsIn K mainGlobals "list" = some none)
    (z_max : PySem.W.nsIn K mainGlobals "max" = some none)
    (z_min : PySem.W.nsIn K mainGlobals "min" = some none)
    (z_range : PySem.W.nsIn K mainGlobals "range" = some none)
    (z_str : PySem.W.nsIn K mainGlobals "str" = some none)
    (z_tuple : PySem.W.nsIn K mainGlobals "tuple" = some none)
    (w_ki_Ratio_int : PySem.W.subIn K (.ref CR) (.type "int") = some false)
    (z_gcd : PySem.W.nsIn K mainGlobals "gcd" = some (some (.builtin "math.gcd")))
    (w_na_Ratio_bottom : PySem.W.findIn K (.ref CR) "bottom" = some none)
    (w_na_Ratio_top : PySem.W.findIn K (.ref CR) "top" = some none)
    (w_xn_BadNumber_n : PySem.W.findIn K (.ref CB) "n" = some none)
    (w_xn_BadShares_total : PySem.W.findIn K (.ref CX) "total" = some none)
    : ∃ fd : FuncData, (∀ (s : Shared) (v : Value), BindsTo s fd ⟨[v], []⟩ [("_law_script", v)]) ∧ ∀ base : Heap, K.In base → base.Ns mainGlobals mg → FnOk P w K mg base (L2.CX P w) 10 fa fd ["_law_script"] (spLaw K) := by
  have e := hfa.symm.trans (PySem.W.mg_of X G a27)
  cases e
  have F0 := fun_mk (st := s__shown) l0 c0 k0
  have b0 := F0.binds (ps := ["n"]) fun _ _ _ _ _ _ us hl => match us, hl with | [_], _ => rfl
  have F1 := fun_mk (st := s_BadNumber___init__) l1 c1 k1
  have b1 := F1.binds (ps := ["self", "n"]) fun _ _ _ _ _ _ us hl => match us, hl with | [_, _], _ => rfl
  have F2 := fun_mk (st := s_decimal) l2 c2 k2
  have b2 := F2.binds (ps := ["n"]) fun _ _ _ _ _ _ us hl => match us, hl with | [_], _ => rfl
  have F3 := fun_mk (st := s_Ratio___str__) l3 c3 k3
  have b3 := F3.binds (ps := ["self"]) fun _ _ _ _ _ _ us hl => match us, hl with | [_], _ => rfl
  have F4 := fun_mk (st := s_BadShares___init__) l4 c4 k4
  have b4 := F4.binds (ps := ["self", "total"]) fun _ _ _ _ _ _ us hl => match us, hl with | [_, _], _ => rfl
  have F5 := fun_mk (st := s_Ratio___init__) l5 c5 k5
  have b5 := F5.binds (ps := ["self", "top", "bottom"]) fun _ _ _ _ _ _ us hl => match us, hl with | [_, _, _], _ => rfl
  have F6 := fun_mk (st := s_Ratio_whole) l6 c6 k6
  have b6 := F6.binds (ps := ["cls", "n"]) fun _ _ _ _ _ _ us hl => match us, hl with | [_, _], _ => rfl
  have F7 := fun_mk (st := s_Ratio_under) l7 c7 k7
  have b7 := F7.binds (ps := ["self", "other"]) fun _ _ _ _ _ _ us hl => match us, hl with | [_, _], _ => rfl
  have F8 := fun_mk (st := s_Ratio___add__) l8 c8 k8
  have b8 := F8.binds (ps := ["self", "other"]) fun _ _ _ _ _ _ us hl => match us, hl with | [_, _], _ => rfl
  have F9 := fun_mk (st := s_Ratio___sub__) l9 c9 k9
  have b9 := F9.binds (ps := ["self", "other"]) fun _ _ _ _ _ _ us hl => match us, hl with | [_, _], _ => rfl
  have F10 := fun_mk (st := s_Ratio___eq__) l10 c10 k10
  have b10 := F10.binds (ps := ["self", "other"]) fun _ _ _ _ _ _ us hl => match us, hl with | [_, _], _ => rfl
  have F11 := fun_mk (st := s_Ratio___bool__) l11 c11 k11
  have b11 := F11.binds (ps := ["self"]) fun _ _ _ _ _ _ us hl => match us, hl with | [_], _ => rfl
  have F12 := fun_mk (st := s_total) l12 c12 k12
  have b12 := F12.binds (ps := ["ratios"]) fun _ _ _ _ _ _ us hl => match us, hl with | [_], _ => rfl
  have F13 := fun_mk (st := s_dealt) l13 c13 k13
  have b13 := F13.binds (ps := ["first", "second"]) fun _ _ _ _ _ _ us hl => match us, hl with | [_, _], _ => rfl
  have F14 := fun_mk (st := s__law_pool) l14 c14 k14
  have b14 := F14.binds (ps := ["_law_cell_here"]) fun _ _ _ _ _ _ us hl => match us, hl with | [_], _ => rfl
  have F15 := fun_mk (st := s__law_take) l15 c15 k15
  have b15 := F15.binds (ps := ["_law_pool_here", "_law_limit"]) fun _ _ _ _ _ _ us hl => match us, hl with | [_, _], _ => rfl
  have F16 := fun_mk (st := s__law_cell) l16 c16 k16
  have b16 := F16.binds (ps := ["_law_script", "_law_k"]) fun _ _ _ _ _ _ us hl => match us, hl with | [_, _], _ => rfl
  have F17 := fun_mk (st := s__law_frac) l17 c17 k17
  have b17 := F17.binds (ps := ["_law_top", "_law_bottom"]) fun _ _ _ _ _ _ us hl => match us, hl with | [_, _], _ => rfl
  have F18 := fun_mk (st := s__law_add) l18 c18 k18
  have b18 := F18.binds (ps := ["_law_one", "_law_other"]) fun _ _ _ _ _ _ us hl => match us, hl with | [_, _], _ => rfl
  have F19 := fun_mk (st := s__law_mul) l19 c19 k19
  have b19 := F19.binds (ps := ["_law_one", "_law_other"]) fun _ _ _ _ _ _ us hl => match us, hl with | [_, _], _ => rfl
  have F20 := fun_mk (st := s__law_of) l20 c20 k20
  have b20 := F20.binds (ps := ["_law_ratio"]) fun _ _ _ _ _ _ us hl => match us, hl with | [_], _ => rfl
  have F21 := fun_mk (st := s__law_row) l21 c21 k21
  have b21 := F21.binds (ps := ["_law_pool_here"]) fun _ _ _ _ _ _ us hl => match us, hl with | [_], _ => rfl
  have F22 := fun_mk (st := s__law_sum) l22 c22 k22
  have b22 := F22.binds (ps := ["_law_rows"]) fun _ _ _ _ _ _ us hl => match us, hl with | [_], _ => rfl
  have F23 := fun_mk (st := s__law_scaled) l23 c23 k23
  have b23 := F23.binds (ps := ["_law_rows", "_law_whole"]) fun _ _ _ _ _ _ us hl => match us, hl with | [_, _], _ => rfl
  have F24 := fun_mk (st := s__law_less) l24 c24 k24
  have b24 := F24.binds (ps := ["_law_one", "_law_other"]) fun _ _ _ _ _ _ us hl => match us, hl with | [_, _], _ => rfl
  have F25 := fun_mk (st := s__law_due) l25 c25 k25
  have b25 := F25.binds (ps := ["_law_first", "_law_second"]) fun _ _ _ _ _ _ us hl => match us, hl with | [_, _], _ => rfl
  have F26 := fun_mk (st := s__law_told) l26 c26 k26
  have b26 := F26.binds (ps := ["_law_first", "_law_second"]) fun _ _ _ _ _ _ us hl => match us, hl with | [_, _], _ => rfl
  have F27 := fun_mk (st := s_law) l27 c27 k27
  refine ⟨PySem.W.fnOf "law" "law" (defArgs s_law) (defBody s_law) (defScope s_law) .none kV27 dc27 pm27 an27 cd27 ct27, fun s v => .of_eq rfl, fun base _ _ => ?_⟩
  have C_b_abs := PySem.W.mg_none_of X G z_abs
  have C_b_bool := PySem.W.mg_none_of X G z_bool
  have C_b_divmod := PySem.W.mg_none_of X G z_divmod
  have C_b_int := PySem.W.mg_none_of X G z_int
  have C_b_isinstance := PySem.W.mg_none_of X G z_isinstance
  have C_b_len := PySem.W.mg_none_of X G z_len
  have C_b_list := PySem.W.mg_none_of X G z_list
  have C_b_max := PySem.W.mg_none_of X G z_max
  have C_b_min := PySem.W.mg_none_of X G z_min
  have C_b_range := PySem.W.mg_none_of X G z_range
  have C_b_str := PySem.W.mg_none_of X G z_str
  have C_b_tuple := PySem.W.mg_none_of X G z_tuple
  have C_c_Ratio : ClO K CR := ⟨⟨pg_Ratio, hd_Ratio, po_Ratio, sa_Ratio⟩, ha_Ratio, hn, htk, hm_Ratio⟩
  have C_gBadShares := PySem.W.mg_of X G aC_BadShares
  have C_gRatio := PySem.W.mg_of X G aC_Ratio
  have C_ki_Ratio_Ratio : PySem.W.kitOne K (.ref CR) (.ref CR) = some true := kit_self
  have C_ki_Ratio_int : PySem.W.kitOne K (.ref CR) (.type "int") = some false := kit_b (by decide +kernel) w_ki_Ratio_int
  have C_m_gcd := PySem.W.mg_of X G z_gcd
  have C_na_Ratio_bottom : NoAttr K CR "bottom" := w_na_Ratio_bottom
  have C_na_Ratio_top : NoAttr K CR "top" := w_na_Ratio_top
  have C_ne_Ratio : NeC K CR := ⟨ne_Ratio, ob_Ratio⟩
  have C_ox_BadNumber : OexC K CB := ⟨⟨_, _, _, _, _, _, _, _, _, _, _, _, _, _, _, xL_BadNumber, refs_ve _⟩, sa_BadNumber, eC_BadNumber, tC_BadNumber, kC_BadNumber⟩
  have C_ox_BadShares : OexC K CX := ⟨⟨_, _, _, _, _, _, _, _, _, _, _, _, _, _, _, xL_BadShares, refs_ve _⟩, sa_BadShares, eC_BadShares, tC_BadShares, kC_BadShares⟩
  have C_t_ThrowError : CalT K mg "ThrowError" := mk_calT X G aC_ThrowError ⟨rd_ThrowError, rg_ThrowError⟩ rv_ThrowError
  have C_xf_BadShares : XfC K CX := ⟨ga_BadShares, gg_BadShares, eC_BadShares, hC_BadShares⟩
  have C_xm_BadShares : PySem.W.exmOne K (.ref CX) (.ref CX) = some true := exm_in eC_BadShares iC_BadShares tC_BadShares sC_BadShares
  have C_xn_BadNumber_n : PySem.W.findIn K (.ref CB) "n" = some none := w_xn_BadNumber_n
  have C_xn_BadShares_total : PySem.W.findIn K (.ref CX) "total" = some none := w_xn_BadShares_total
  have G__shown : FnOk P w K mg base (L2.CX P w) 1 f0 _ _ spShown := ok__shown F0 C_b_int C_b_isinstance C_b_str
  have C_f_shown : Cal P w K mg base "_shown" 1 spShown := mk_cal X G a0 k0 G__shown b0
  have G_decimal : FnOk P w K mg base (L2.CX P w) 1 f2 _ _ spDec := ok_decimal F2 C_b_abs C_b_divmod C_b_str
  have C_f_decimal : Cal P w K mg base "decimal" 1 spDec := mk_cal X G a2 k2 G_decimal b2
  have G_Ratio_under : FnOk P w K mg base (L2.CX P w) 1 f7 _ _ (spRUnder CR) := ok_Ratio_under F7 C_c_Ratio C_na_Ratio_bottom C_na_Ratio_top
  have C_m_Ratio_under : CalM P w K mg base CR "under" 1 (spRUnder CR) := mk_calM ⟨a7, i7, k7⟩ G_Ratio_under b7
  have G_Ratio___eq__ : FnOk P w K mg base (L2.CX P w) 1 f10 _ _ (spREq K CR) := ok_Ratio___eq__ F10 C_b_isinstance C_c_Ratio C_gRatio C_ki_Ratio_Ratio C_na_Ratio_bottom C_na_Ratio_top
  have C_o_Ratio_eq : CalO P w K mg base CR "__eq__" 1 (spREq K CR) := mk_calO a10 i10 sf_Ratio G_Ratio___eq__ b10
  have G_Ratio___bool__ : FnOk P w K mg base (L2.CX P w) 1 f11 _ _ (spRBool CR) := ok_Ratio___bool__ F11 C_b_bool C_c_Ratio C_na_Ratio_bottom C_na_Ratio_top
  have C_o_Ratio_bool : CalO P w K mg base CR "__bool__" 1 (spRBool CR) := mk_calO a11 i11 sf_Ratio G_Ratio___bool__ b11
  have G__law_pool : FnOk P w K mg base (L2.CX P w) 1 f14 _ _ spPoolN := ok__law_pool F14 C_b_abs
  have C_f_law_pool : Cal P w K mg base "_law_pool" 1 spPoolN := mk_cal X G a14 k14 G__law_pool b14
  have G__law_take : FnOk P w K mg base (L2.CX P w) 1 f15 _ _ spTakeN := ok__law_take F15 C_b_int
  have C_f_law_take : Cal P w K mg base "_law_take" 1 spTakeN := mk_cal X G a15 k15 G__law_take b15
  have G__law_cell : FnOk P w K mg base (L2.CX P w) 1 f16 _ _ (spCell K) := ok__law_cell F16 C_b_len
  have C_f_law_cell : Cal P w K mg base "_law_cell" 1 (spCell K) := mk_cal X G a16 k16 G__law_cell b16
  have G__law_frac : FnOk P w K mg base (L2.CX P w) 1 f17 _ _ spFrac := ok__law_frac F17 C_b_abs C_b_int
  have C_f_law_frac : Cal P w K mg base "_law_frac" 1 spFrac := mk_cal X G a17 k17 G__law_frac b17
  have G__law_of : FnOk P w K mg base (L2.CX P w) 1 f20 _ _ (spOf CR) := ok__law_of F20 C_c_Ratio C_na_Ratio_bottom C_na_Ratio_top
  have C_f_law_of : Cal P w K mg base "_law_of" 1 (spOf CR) := mk_cal X G a20 k20 G__law_of b20
  have C_l_law_of : CalL P w K mg base "_law_of" 1 (spOf CR) := mk_calL X G a20 k20 b20 (okL__law_of F20 C_c_Ratio C_na_Ratio_bottom C_na_Ratio_top)
  have G__law_less : FnOk P w K mg base (L2.CX P w) 1 f24 _ _ spLess := ok__law_less F24
  have C_f_law_less : Cal P w K mg base "_law_less" 1 spLess := mk_cal X G a24 k24 G__law_less b24
  have G_BadNumber___init__ : FnOk P w K mg base (L2.CX P w) 2 f1 _ _ (spX1 K CB "n" GInt) := ok_BadNumber___init__ F1 C_f_shown C_ox_BadNumber C_t_ThrowError C_xn_BadNumber_n
  have C_x_BadNumber : CalX P w K mg base "BadNumber" CB 2 ["self", "n"] (spX1 K CB "n" GInt) := mk_calX X G aC_BadNumber C_ox_BadNumber a1 t1 G_BadNumber___init__ b1
  have G_Ratio___str__ : FnOk P w K mg base (L2.CX P w) 2 f3 _ _ (spRStr CR) := ok_Ratio___str__ F3 C_c_Ratio C_f_decimal C_na_Ratio_bottom C_na_Ratio_top
  have C_o_Ratio_str : CalO P w K mg base CR "__str__" 2 (spRStr CR) := mk_calO a3 i3 sf_Ratio G_Ratio___str__ b3
  have G__law_add : FnOk P w K mg base (L2.CX P w) 2 f18 _ _ spQAdd := ok__law_add F18 C_f_law_frac
  have C_f_law_add : Cal P w K mg base "_law_add" 2 spQAdd := mk_cal X G a18 k18 G__law_add b18
  have G__law_mul : FnOk P w K mg base (L2.CX P w) 2 f19 _ _ spQMul := ok__law_mul F19 C_f_law_frac
  have C_f_law_mul : Cal P w K mg base "_law_mul" 2 spQMul := mk_cal X G a19 k19 G__law_mul b19
  have G__law_row : FnOk P w K mg base (L2.CX P w) 2 f21 _ _ spRow := ok__law_row F21 C_b_range C_f_law_frac C_f_law_take
  have C_f_law_row : Cal P w K mg base "_law_row" 2 spRow := mk_cal X G a21 k21 G__law_row b21
  have G__law_sum : FnOk P w K mg base (L2.CX P w) 3 f22 _ _ (spSum K) := ok__law_sum F22 C_f_law_add
  have C_f_law_sum : Cal P w K mg base "_law_sum" 3 (spSum K) := mk_cal X G a22 k22 G__law_sum b22
  have G_Ratio___init__ : FnOk P w K mg base (L2.CX P w) 4 f5 _ _ (spRInit CR CB) := ok_Ratio___init__ F5 C_c_Ratio C_m_gcd C_na_Ratio_bottom C_na_Ratio_top C_x_BadNumber
  have C_i_Ratio : CalI P w K mg base "Ratio" CR 4 (spRInit CR CB) := mk_calI X G aC_Ratio ⟨mk_Ratio, a5, i5, kc_Ratio⟩ G_Ratio___init__ b5
  have G__law_scaled : FnOk P w K mg base (L2.CX P w) 4 f23 _ _ spScaled := ok__law_scaled F23 C_f_law_mul C_f_law_sum
  have C_f_law_scaled : Cal P w K mg base "_law_scaled" 4 spScaled := mk_cal X G a23 k23 G__law_scaled b23
  have G__law_due : FnOk P w K mg base (L2.CX P w) 4 f25 _ _ (spDue K) := ok__law_due F25 C_b_int C_b_len C_b_list C_b_range C_f_law_add C_f_law_less C_f_law_sum
  have C_f_law_due : Cal P w K mg base "_law_due" 4 (spDue K) := mk_cal X G a25 k25 G__law_due b25
  have G__shown__R : FnOk P w K mg base (L2.CX P w) 5 f0 _ _ (spShownR CR) := ok__shown__R F0 C_b_int C_b_isinstance C_b_str C_c_Ratio C_ki_Ratio_int C_na_Ratio_bottom C_na_Ratio_top C_o_Ratio_str
  have C_f_shown__R : Cal P w K mg base "_shown" 5 (spShownR CR) := mk_cal X G a0 k0 G__shown__R b0
  have G_BadShares___init__ : FnOk P w K mg base (L2.CX P w) 6 f4 _ _ (spX1 K CX "total" (GRat CR)) := ok_BadShares___init__ F4 C_f_shown__R C_ox_BadShares C_t_ThrowError C_xn_BadShares_total
  have C_x_BadShares : CalX P w K mg base "BadShares" CX 6 ["self", "total"] (spX1 K CX "total" (GRat CR)) := mk_calX X G aC_BadShares C_ox_BadShares a4 t4 G_BadShares___init__ b4
  have G_Ratio_whole : FnOk P w K mg base (L2.CX P w) 6 f6 _ _ (spRWhole CR) := ok_Ratio_whole F6 C_i_Ratio
  have C_k_Ratio_whole : CalK P w K mg base CR "whole" 6 (spRWhole CR) := mk_calK ⟨rd_Ratio, rg_Ratio⟩ ⟨a6, ⟨_, r6⟩, i6⟩ G_Ratio_whole b6
  have G_Ratio___add__ : FnOk P w K mg base (L2.CX P w) 6 f8 _ _ (spR2 CR (· + ·)) := ok_Ratio___add__ F8 C_c_Ratio C_i_Ratio C_na_Ratio_bottom C_na_Ratio_top
  have C_o_Ratio_add : CalO P w K mg base CR "__add__" 6 (spR2 CR (· + ·)) := mk_calO a8 i8 sf_Ratio G_Ratio___add__ b8
  have G_Ratio___sub__ : FnOk P w K mg base (L2.CX P w) 6 f9 _ _ (spR2 CR (· - ·)) := ok_Ratio___sub__ F9 C_c_Ratio C_i_Ratio C_na_Ratio_bottom C_na_Ratio_top
  have C_o_Ratio_sub : CalO P w K mg base CR "__sub__" 6 (spR2 CR (· - ·)) := mk_calO a9 i9 sf_Ratio G_Ratio___sub__ b9
  have G_total : FnOk P w K mg base (L2.CX P w) 7 f12 _ _ (spTotal K CR) := ok_total F12 C_gRatio C_k_Ratio_whole C_o_Ratio_add
  have C_f_total : Cal P w K mg base "total" 7 (spTotal K CR) := mk_cal X G a12 k12 G_total b12
  have G_dealt : FnOk P w K mg base (L2.CX P w) 8 f13 _ _ (spDealt K CR CX) := ok_dealt F13 C_b_list C_c_Ratio C_f_total C_m_Ratio_under C_na_Ratio_bottom C_na_Ratio_top C_ne_Ratio C_o_Ratio_bool C_o_Ratio_eq C_o_Ratio_sub C_x_BadShares
  have C_f_dealt : Cal P w K mg base "dealt" 8 (spDealt K CR CX) := mk_cal X G a13 k13 G_dealt b13
  have G__law_told : FnOk P w K mg base (L2.CX P w) 9 f26 _ _ (spTold K CR) := ok__law_told F26 C_c_Ratio C_f_dealt C_f_law_of C_gBadShares C_l_law_of C_na_Ratio_bottom C_na_Ratio_top C_xf_BadShares C_xm_BadShares C_xn_BadShares_total
  have C_f_law_told : Cal P w K mg base "_law_told" 9 (spTold K CR) := mk_cal X G a26 k26 G__law_told b26
  exact ok_law F27 C_b_len C_b_list C_b_max C_b_min C_b_range C_b_tuple C_f_law_cell C_f_law_due C_f_law_pool C_f_law_row C_f_law_scaled C_f_law_sum C_f_law_take C_f_law_told C_i_Ratio
theorem walk {l : PySem.W.OpenLaw} {q : Program} {loose : List Str} {XP : (Str → Option Value) → Heap → Prop} {YP : World → Heap → Prop} {d : DefRec} {K : Params → PySem.W.Frag} (hn : l.most = some 63) (hdf : d.params.defaults = [])
    (hY : ∀ (w : World) (h : Heap), YP w h → (K w.params).In h)
    (F : ∀ (w : World) (mg : Str → Option Value) (fa : Addr) (h : Heap), (K w.params).In h → h.Ns mainGlobals mg → mg d.name = some (.ref fa) →
      ∃ fd : FuncData, (∀ (s : Shared) (u : Value), BindsTo s fd ⟨[u], []⟩ [("_law_script", u)]) ∧ ∀ base : Heap, (K w.params).In base → base.Ns mainGlobals mg → FnOk l.prog w (K w.params) mg base (L2.CX l.prog w) 10 fa fd ["_law_script"] (spLaw (K w.params))) :
    PySem.W.WalkO q loose XP YP l.row.toRowW d [] (fun f vs => PySem.call f vs) :=
  L2.walk_of (n := 63) (k := 10) (x := "_law_script") (CX := fun w => L2.CX l.prog w) (sp := fun w => spLaw (K w.params)) hn (by decide) hdf ⟨rfl, by decide, by decide⟩ hY F (fun _ _ a ns hl _ hS => mk_law hS hl) fun _ _ _ _ _ z => cxN z
end Z

open PySem PySem.W PyProof.Rows in
set_option maxRecDepth 100000 in
set_option maxHeartbeats 0 in
theorem PySem.Challenge.cw_onethrow_k62_shares_dealt_holds : PySem.Challenge.rw_onethrow_k62_shares_dealt.Holds := by
  w_on; o_law; k_head; (case hw => w_witness2)
  k_fill
  refine Z.walk (l := PySem.Challenge.rw_onethrow_k62_shares_dealt) rfl rfl (fun w h Y => PySem.W.kIn_of Y) ?F
  case F =>
    intro w mg fa h KX G hmg
    refine' Z.all_mk KX G hmg ?aC_Ratio ?aC_BadNumber ?aC_BadShares ?aC_ThrowError ?pg_Ratio ?hd_Ratio ?po_Ratio ?sa_Ratio ?ha_Ratio ?hm_Ratio ?mk_Ratio ?kc_Ratio ?sf_Ratio ?iC_Ratio ?tC_Ratio ?ne_Ratio ?ob_Ratio ?hn ?htk ?xL_BadNumber ?sa_BadNumber ?ga_BadNumber ?gg_BadNumber ?kC_BadNumber ?eC_BadNumber ?tC_BadNumber ?hC_BadNumber ?iC_BadNumber ?sC_BadNumber ?xL_BadShares ?sa_BadShares ?ga_BadShares ?gg_BadShares ?kC_BadShares ?eC_BadShares ?tC_BadShares ?hC_BadShares ?iC_BadShares ?sC_BadShares ?rd_Ratio ?rg_Ratio ?rd_ThrowError ?rg_ThrowError ?rv_ThrowError ?a0 ?l0 ?c0 ?k0 ?a1 ?t1 ?l1 ?c1 ?k1 ?a2 ?l2 ?c2 ?k2 ?a3 ?i3 ?l3 ?c3 ?k3 ?a4 ?t4 ?l4 ?c4 ?k4 ?a5 ?i5 ?l5 ?c5 ?k5 ?a6 ?r6 ?i6 ?l6 ?c6 ?k6 ?a7 ?i7 ?l7 ?c7 ?k7 ?a8 ?i8 ?l8 ?c8 ?k8 ?a9 ?i9 ?l9 ?c9 ?k9 ?a10 ?i10 ?l10 ?c10 ?k10 ?a11 ?i11 ?l11 ?c11 ?k11 ?a12 ?l12 ?c12 ?k12 ?a13 ?l13 ?c13 ?k13 ?a14 ?l14 ?c14 ?k14 ?a15 ?l15 ?c15 ?k15 ?a16 ?l16 ?c16 ?k16 ?a17 ?l17 ?c17 ?k17 ?a18 ?l18 ?c18 ?k18 ?a19 ?l19 ?c19 ?k19 ?a20 ?l20 ?c20 ?k20 ?a21 ?l21 ?c21 ?k21 ?a22 ?l22 ?c22 ?k22 ?a23 ?l23 ?c23 ?k23 ?a24 ?l24 ?c24 ?k24 ?a25 ?l25 ?c25 ?k25 ?a26 ?l26 ?c26 ?k26 ?a27 ?l27 ?c27 ?k27 ?z_abs ?z_bool ?z_divmod ?z_int ?z_isinstance ?z_len ?z_list ?z_max ?z_min ?z_range ?z_str ?z_tuple ?w_ki_Ratio_int ?z_gcd ?w_na_Ratio_bottom ?w_na_Ratio_top ?w_xn_BadNumber_n ?w_xn_BadShares_total
    (case aC_Ratio => k_is)
    (case aC_BadNumber => k_is)
    (case aC_BadShares => k_is)
    (case aC_ThrowError => k_is)
    (case pg_Ratio => k_is)
    (case hd_Ratio => k_is)
    (case po_Ratio => k_is)
    (case sa_Ratio => k_is)
    (case ha_Ratio => k_is)
    (case hm_Ratio => k_is)
    (case mk_Ratio => k_is)
    (case kc_Ratio => k_is)
    (case sf_Ratio => k_is)
    (case iC_Ratio => k_is)
    (case tC_Ratio => k_is)
    (case ne_Ratio => k_is)
    (case ob_Ratio => k_is)
    (case hn => k_is)
    (case htk => k_is)
    (case xL_BadNumber => k_is)
    (case sa_BadNumber => k_is)
    (case ga_BadNumber => k_is)
    (case gg_BadNumber => k_is)
    (case kC_BadNumber => k_is)
    (case eC_BadNumber => k_is)
    (case tC_BadNumber => k_is)
    (case hC_BadNumber => k_is)
    (case iC_BadNumber => k_is)
    (case sC_BadNumber => k_is)
    (case xL_BadShares => k_is)
    (case sa_BadShares => k_is)
    (case ga_BadShares => k_is)
    (case gg_BadShares => k_is)
    (case kC_BadShares => k_is)
    (case eC_BadShares => k_is)
    (case tC_BadShares => k_is)
    (case hC_BadShares => k_is)
    (case iC_BadShares => k_is)
    (case sC_BadShares => k_is)
    (case rd_Ratio => k_is)
    (case rg_Ratio => k_is)
    (case rd_ThrowError => k_is)
    (case rg_ThrowError => k_is)
    (case rv_ThrowError => k_is)
    (case a0 => k_is)
    (case l0 => k_is)
    (case c0 => k_is)
    (case k0 => k_is)
    (case a1 => k_is)
    (case t1 => k_is)
    (case l1 => k_is)
    (case c1 => k_is)
    (case k1 => k_is)
    (case a2 => k_is)
    (case l2 => k_is)
    (case c2 => k_is)
    (case k2 => k_is)
    (case a3 => k_is)
    (case i3 => k_is)
    (case l3 => k_is)
    (case c3 => k_is)
    (case k3 => k_is)
    (case a4 => k_is)
    (case t4 => k_is)
    (case l4 => k_is)
    (case c4 => k_is)
    (case k4 => k_is)
    (case a5 => k_is)
    (case i5 => k_is)
    (case l5 => k_is)
    (case c5 => k_is)
    (case k5 => k_is)
    (case a6 => k_is)
    (case r6 => k_is)
    (case i6 => k_is)
    (case l6 => k_is)
    (case c6 => k_is)
    (case k6 => k_is)
    (case a7 => k_is)
    (case i7 => k_is)
    (case l7 => k_is)
    (case c7 => k_is)
    (case k7 => k_is)
    (case a8 => k_is)
    (case i8 => k_is)
    (case l8 => k_is)
    (case c8 => k_is)
    (case k8 => k_is)
    (case a9 => k_is)
    (case i9 => k_is)
    (case l9 => k_is)
    (case c9 => k_is)
    (case k9 => k_is)
    (case a10 => k_is)
    (case i10 => k_is)
    (case l10 => k_is)
    (case c10 => k_is)
    (case k10 => k_is)
    (case a11 => k_is)
    (case i11 => k_is)
    (case l11 => k_is)
    (case c11 => k_is)
    (case k11 => k_is)
    (case a12 => k_is)
    (case l12 => k_is)
    (case c12 => k_is)
    (case k12 => k_is)
    (case a13 => k_is)
    (case l13 => k_is)
    (case c13 => k_is)
    (case k13 => k_is)
    (case a14 => k_is)
    (case l14 => k_is)
    (case c14 => k_is)
    (case k14 => k_is)
    (case a15 => k_is)
    (case l15 => k_is)
    (case c15 => k_is)
    (case k15 => k_is)
    (case a16 => k_is)
    (case l16 => k_is)
    (case c16 => k_is)
    (case k16 => k_is)
    (case a17 => k_is)
    (case l17 => k_is)
    (case c17 => k_is)
    (case k17 => k_is)
    (case a18 => k_is)
    (case l18 => k_is)
    (case c18 => k_is)
    (case k18 => k_is)
    (case a19 => k_is)
    (case l19 => k_is)
    (case c19 => k_is)
    (case k19 => k_is)
    (case a20 => k_is)
    (case l20 => k_is)
    (case c20 => k_is)
    (case k20 => k_is)
    (case a21 => k_is)
    (case l21 => k_is)
    (case c21 => k_is)
    (case k21 => k_is)
    (case a22 => k_is)
    (case l22 => k_is)
    (case c22 => k_is)
    (case k22 => k_is)
    (case a23 => k_is)
    (case l23 => k_is)
    (case c23 => k_is)
    (case k23 => k_is)
    (case a24 => k_is)
    (case l24 => k_is)
    (case c24 => k_is)
    (case k24 => k_is)
    (case a25 => k_is)
    (case l25 => k_is)
    (case c25 => k_is)
    (case k25 => k_is)
    (case a26 => k_is)
    (case l26 => k_is)
    (case c26 => k_is)
    (case k26 => k_is)
    (case a27 => k_is)
    (case l27 => k_is)
    (case c27 => k_is)
    (case k27 => k_is)
    (case z_abs => k_is)
    (case z_bool => k_is)
    (case z_divmod => k_is)
    (case z_int => k_is)
    (case z_isinstance => k_is)
    (case z_len => k_is)
    (case z_list => k_is)
    (case z_max => k_is)
    (case z_min => k_is)
    (case z_range => k_is)
    (case z_str => k_is)
    (case z_tuple => k_is)
    (case w_ki_Ratio_int => k_is)
    (case z_gcd => k_is)
    (case w_na_Ratio_bottom => k_is)
    (case w_na_Ratio_top => k_is)
    (case w_xn_BadNumber_n => k_is)
    (case w_xn_BadShares_total => k_is)

