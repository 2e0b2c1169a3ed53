/-
  Whole numbers below 2^53 as float64: the words, and that sums, differences and products of them are exact.
-/
import Derived.Laws.ComplexArith
namespace Go.Proofs.YtcfghkphkmoikaaGreat
set_option maxRecDepth 100000
open Ieee

/-- A number with a sign, a magnitude and a place is n (its sign told by neg, also of nought). -/
def ValueIs (m : Nat) (p : Int) (n : Nat) : Prop := (0 ≤ p ∧ n = m * 2 ^ p.toNat) ∨ (p < 0 ∧ m = n * 2 ^ (-p).toNat)

theorem log2_mul_pow (n k : Nat) (h : n ≠ 0) : (n * 2 ^ k).log2 = n.log2 + k := by
  induction k with
  | zero => simp
  | succ k ih =>
    rw [Nat.pow_succ, ← Nat.mul_assoc, Nat.mul_comm (n * 2 ^ k) 2, Nat.log2_two_mul (by have := Nat.pos_of_ne_zero h; have := Nat.two_pow_pos k; exact Nat.ne_of_gt (Nat.mul_pos ‹_› ‹_›)), ih]
    omega
/-- What is kept of a number that fits. -/
theorem cut_exact (neg : Bool) (x drop : Nat) (h : drop ≤ (x * 2 ^ drop).log2 + 2) : Toward.even.cut neg (x * 2 ^ drop) drop = x := by
  unfold Toward.cut
  rw [Nat.min_eq_left h]
  have hp := Nat.two_pow_pos drop
  have hgap : 1 <<< drop = 2 ^ drop := by rw [Nat.shiftLeft_eq, Nat.one_mul]
  have h1 : x * 2 ^ drop / 2 ^ drop = x := Nat.mul_div_cancel _ hp
  have h2 : x * 2 ^ drop % 2 ^ drop = 0 := Nat.mul_mod_left _ _
  simp only [hgap, h1, h2]
  have h3 : ¬ (2 ^ drop < 2 * 0) := by omega
  have h4 : (2 ^ drop == 2 * 0) = false := by simp
  simp [h4]
theorem least_double : double.leastPlace = -1074 := by decide
theorem frac_double : double.fractionBits = 52 := rfl
theorem binade_double : double.binade = 2 ^ 52 := rfl
theorem inf_double : double.infRung = 2047 * 2 ^ 52 := by decide
theorem sign_double : double.signWeight = 2 ^ 63 := rfl
/-- The rung of a whole number. -/
def rungOf (n : Nat) : Nat := (1022 + n.log2) * 2 ^ 52 + n * 2 ^ (52 - n.log2)
theorem sig_range {n : Nat} (h0 : n ≠ 0) (h : n < 2 ^ 53) : 2 ^ 52 ≤ n * 2 ^ (52 - n.log2) ∧ n * 2 ^ (52 - n.log2) < 2 ^ 53 ∧ n.log2 ≤ 52 := by
  have hl : n.log2 ≤ 52 := by
    have := (Nat.log2_lt h0).2 h
    omega
  have h1 := Nat.log2_self_le h0
  have h2 := Nat.lt_log2_self (n := n)
  have hp := Nat.two_pow_pos (52 - n.log2)
  refine ⟨?_, ?_, hl⟩
  · calc 2 ^ 52 = 2 ^ n.log2 * 2 ^ (52 - n.log2) := by rw [← Nat.pow_add]; congr 1; omega
      _ ≤ n * 2 ^ (52 - n.log2) := Nat.mul_le_mul_right _ h1
  · calc n * 2 ^ (52 - n.log2) < 2 ^ (n.log2 + 1) * 2 ^ (52 - n.log2) := Nat.mul_lt_mul_of_pos_right h2 hp
      _ = 2 ^ 53 := by rw [← Nat.pow_add]; congr 1; omega
theorem fit_rung (Q L S : Nat) (hl : L ≤ 52) (hs : S < 2 * Q) : (1022 + L) * Q + S ≤ 2047 * Q := by
  have : (1022 + L) * Q ≤ 1074 * Q := Nat.mul_le_mul_right _ (by omega)
  omega
set_option maxRecDepth 100000 in
/-- A number's word hangs on its value alone. -/
theorem nearest_whole (neg : Bool) (m : Nat) (p : Int) (n : Nat) (h0 : n ≠ 0) (hn : n < 2 ^ 53) (h : ValueIs m p n) : double.nearest neg m p = double.word neg (rungOf n) := by
  obtain ⟨s1, s2, hl⟩ := sig_range h0 hn
  have hm : m ≠ 0 := by
    rintro rfl
    rcases h with ⟨_, h⟩ | ⟨_, h⟩
    · simp at h; exact h0 h
    · have := Nat.mul_pos (Nat.pos_of_ne_zero h0) (Nat.two_pow_pos (-p).toNat); omega
  have hlog : (m.log2 : Int) + p = n.log2 := by
    rcases h with ⟨hp, h⟩ | ⟨hp, h⟩
    · rw [h, log2_mul_pow _ _ hm]; omega
    · rw [h, log2_mul_pow _ _ h0]; omega
  unfold Format.nearest
  rw [if_neg hm]
  have hlast : max (p + m.log2 - double.fractionBits) double.leastPlace = (n.log2 : Int) - 52 := by
    rw [least_double, frac_double]; omega
  simp only [hlast]
  have hkept : Toward.even.cut neg (m <<< (p - ((n.log2 : Int) - 52)).toNat) (((n.log2 : Int) - 52) - p).toNat = n * 2 ^ (52 - n.log2) := by
    generalize n.log2 = L at hl hlog ⊢
    by_cases hc : (L : Int) - 52 ≤ p
    · have e1 : (((L : Int) - 52) - p).toNat = 0 := by omega
      rw [e1]
      have := cut_exact neg (m <<< (p - ((L : Int) - 52)).toNat) 0 (by omega)
      rw [Nat.pow_zero, Nat.mul_one] at this
      rw [this, Nat.shiftLeft_eq]
      rcases h with ⟨hp, h⟩ | ⟨hp, h⟩
      · rw [h, Nat.mul_assoc, ← Nat.pow_add]
        congr 2; omega
      · rw [h, Nat.mul_assoc, ← Nat.pow_add]
        congr 2; omega
    · have e1 : (p - ((L : Int) - 52)).toNat = 0 := by omega
      rw [e1, Nat.shiftLeft_eq, Nat.pow_zero, Nat.mul_one]
      rcases h with ⟨hp, h⟩ | ⟨hp, h⟩
      · omega
      · have e2 : m = n * 2 ^ (52 - L) * 2 ^ (((L : Int) - 52) - p).toNat := by
          rw [h, Nat.mul_assoc, ← Nat.pow_add]
          congr 2; omega
        rw [e2]
        refine cut_exact neg _ _ ?_
        rw [← e2]
        omega
  rw [hkept, least_double, binade_double, inf_double]
  have e3 : ((n.log2 : Int) - 52 - -1074).toNat = 1022 + n.log2 := by omega
  rw [e3]
  unfold rungOf
  rw [Nat.min_eq_left (fit_rung (2 ^ 52) n.log2 _ hl (Nat.lt_of_lt_of_eq s2 rfl))]
set_option maxRecDepth 100000 in
/-- What such a word stands for. -/
theorem read_whole (neg : Bool) (n : Nat) (h0 : n ≠ 0) (hn : n < 2 ^ 53) : double.read (double.word neg (rungOf n)) = .number neg (n * 2 ^ (52 - n.log2)) ((n.log2 : Int) - 52) := by
  obtain ⟨s1, s2, hl⟩ := sig_range h0 hn
  have hr1 : rungOf n = (1023 + n.log2) * 2 ^ 52 + (n * 2 ^ (52 - n.log2) - 2 ^ 52) := by unfold rungOf; omega
  have hlow : n * 2 ^ (52 - n.log2) - 2 ^ 52 < 2 ^ 52 := by omega
  have hr2 : rungOf n < 2 ^ 63 := by
    rw [hr1]
    have : (1023 + n.log2) * 2 ^ 52 ≤ 1075 * 2 ^ 52 := Nat.mul_le_mul_right _ (by omega)
    omega
  have hneg : (double.word neg (rungOf n) / 2 ^ 63 % 2 == 1) = neg := by
    unfold Format.word
    rw [sign_double]
    cases neg
    · simp only [Bool.false_eq_true, if_false]
      rw [Nat.div_eq_of_lt hr2]; rfl
    · simp only [if_true]
      rw [Nat.add_div_left _ (by decide), Nat.div_eq_of_lt hr2]; rfl
  have hmod : double.word neg (rungOf n) % 2 ^ 63 = rungOf n := by
    unfold Format.word
    rw [sign_double]
    cases neg
    · simp only [Bool.false_eq_true, if_false]; exact Nat.mod_eq_of_lt hr2
    · simp only [if_true]; rw [Nat.add_mod_left]; exact Nat.mod_eq_of_lt hr2
  unfold Format.read
  rw [sign_double, hneg, hmod, binade_double, inf_double, least_double]
  have hd : rungOf n / 2 ^ 52 = 1023 + n.log2 := by rw [hr1, Nat.mul_comm, Nat.mul_add_div (by decide), Nat.div_eq_of_lt hlow]; rfl
  have hmd : rungOf n % 2 ^ 52 = n * 2 ^ (52 - n.log2) - 2 ^ 52 := by rw [hr1, Nat.mul_comm, Nat.mul_add_mod, Nat.mod_eq_of_lt hlow]
  have hge : ¬ rungOf n < 2 ^ 52 := by
    have : 1 * 2 ^ 52 ≤ (1023 + n.log2) * 2 ^ 52 := Nat.mul_le_mul_right _ (by omega)
    omega
  have hlt : rungOf n < 2047 * 2 ^ 52 := by
    have : (1023 + n.log2) * 2 ^ 52 ≤ 1075 * 2 ^ 52 := Nat.mul_le_mul_right _ (by omega)
    omega
  have e1 : 2 ^ 52 + (n * 2 ^ (52 - n.log2) - 2 ^ 52) = n * 2 ^ (52 - n.log2) := Nat.add_sub_of_le s1
  have e2 : (-1074 : Int) + ((1023 + n.log2 - 1 : Nat) : Int) = (n.log2 : Int) - 52 := by omega
  simp only [if_neg hge, if_pos hlt, hd, hmd, e1, e2]
theorem read_zero (neg : Bool) : double.read (double.word neg 0) = .number neg 0 (-1074) := by cases neg <;> decide
theorem nearest_zero (neg : Bool) (p : Int) : double.nearest neg 0 p = double.word neg 0 := by unfold Format.nearest; rw [if_pos rfl]
/-- A magnitude with its sign. -/
def sg (s : Bool) (m : Nat) : Int := if s then -(m : Int) else m
theorem sg_abs (s : Bool) (m : Nat) : (sg s m).natAbs = m := by unfold sg; split <;> omega
/-- Sign, magnitude and place are the whole number n. -/
def Is (s : Bool) (m : Nat) (p : Int) (n : Int) : Prop := ∃ k : Nat, 0 ≤ p + k ∧ sg s m * 2 ^ (p + k).toNat = n * 2 ^ k
theorem Is.more {s : Bool} {m : Nat} {p n : Int} {k : Nat} (h0 : 0 ≤ p + k) (h : sg s m * 2 ^ (p + k).toNat = n * 2 ^ k) (j : Nat) : 0 ≤ p + (k + j : Nat) ∧ sg s m * 2 ^ (p + (k + j : Nat)).toNat = n * 2 ^ (k + j) := by
  refine ⟨by omega, ?_⟩
  rw [show (p + (k + j : Nat)).toNat = (p + k).toNat + j by omega, Int.pow_add, Int.pow_add, ← Int.mul_assoc, h, Int.mul_assoc]
theorem Is.abs {s : Bool} {m : Nat} {p n : Int} (h : Is s m p n) : ∃ k : Nat, 0 ≤ p + k ∧ m * 2 ^ (p + k).toNat = n.natAbs * 2 ^ k := by
  obtain ⟨k, h0, h⟩ := h
  refine ⟨k, h0, ?_⟩
  have := congrArg Int.natAbs h
  rw [Int.natAbs_mul, Int.natAbs_mul, sg_abs, Int.natAbs_pow, Int.natAbs_pow] at this
  exact this
theorem Is.value {s : Bool} {m : Nat} {p n : Int} (h : Is s m p n) : ValueIs m p n.natAbs := by
  obtain ⟨k, h0, h⟩ := h.abs
  have hp := Nat.two_pow_pos k
  by_cases hpp : 0 ≤ p
  · refine .inl ⟨hpp, ?_⟩
    rw [show (p + k).toNat = p.toNat + k by omega, Nat.pow_add, ← Nat.mul_assoc] at h
    exact (Nat.eq_of_mul_eq_mul_right hp h).symm
  · refine .inr ⟨by omega, ?_⟩
    have hq := Nat.two_pow_pos (p + k).toNat
    rw [show k = (-p).toNat + (p + k).toNat by omega, Nat.pow_add, ← Nat.mul_assoc] at h
    rw [show (p + ((-p).toNat + (p + k).toNat : Nat)).toNat = (p + k).toNat by omega] at h
    exact Nat.eq_of_mul_eq_mul_right hq h
theorem Is.sign {s : Bool} {m : Nat} {p n : Int} (h : Is s m p n) (hn : n ≠ 0) : s = decide (n < 0) := by
  obtain ⟨k, h0, h⟩ := h
  have h1 : (0 : Int) < 2 ^ (p + k).toNat := Int.pow_pos (by decide)
  have h2 : (0 : Int) < 2 ^ k := Int.pow_pos (by decide)
  unfold sg at h
  cases s
  · simp only [Bool.false_eq_true, if_false] at h
    have : 0 ≤ n * 2 ^ k := by rw [← h]; exact Int.mul_nonneg (by omega) (by omega)
    have : 0 ≤ n := by
      rcases Int.lt_or_le n 0 with hl | hl
      · have := Int.mul_neg_of_neg_of_pos hl h2; omega
      · exact hl
    have hd : ¬ n < 0 := by omega
    simp [hd]
  · simp only [if_true] at h
    have h3 : -(m : Int) * 2 ^ (p + k).toNat ≤ 0 := by
      have : 0 ≤ (m : Int) * 2 ^ (p + k).toNat := Int.mul_nonneg (by omega) (by omega)
      rw [Int.neg_mul]; omega
    have : n < 0 := by
      rcases Int.lt_or_le n 0 with hl | hl
      · exact hl
      · have : 0 < n * 2 ^ k := Int.mul_pos (by omega) h2
        omega
    simp [this]
theorem Is.zero {s : Bool} {m : Nat} {p : Int} (h : Is s m p 0) : m = 0 := by
  rcases h.value with ⟨_, h⟩ | ⟨_, h⟩
  · have hp := Nat.two_pow_pos p.toNat
    simp at h
    rcases Nat.mul_eq_zero.1 h.symm with h | h
    · exact h
    · omega
  · simpa using h
/-- A word stands for the whole number n (nought may have either sign). -/
def Stands (b : Nat) (n : Int) : Prop := ∃ s m p, double.read b = .number s m p ∧ Is s m p n
theorem is_whole (s : Bool) (n : Int) (h : n ≠ 0 → s = decide (n < 0)) : Is s n.natAbs 0 n := by
  refine ⟨0, by omega, ?_⟩
  simp only [Int.add_zero, Int.toNat_zero, Int.pow_zero, Int.mul_one, Int.cast_ofNat_Int]
  unfold sg
  by_cases hn : n = 0
  · subst hn; simp
  · rw [h hn]
    by_cases hl : n < 0
    · simp [hl]; omega
    · simp [hl]; omega
theorem is_zero (s : Bool) (p : Int) : Is s 0 p 0 := ⟨p.natAbs, by omega, by unfold sg; split <;> simp⟩
set_option maxRecDepth 100000 in
theorem stands_write {s : Bool} {m : Nat} {p n : Int} (h : Is s m p n) (hn : n.natAbs < 2 ^ 53) : Stands (double.write (.number s m p)) n := by
  show Stands (double.nearest s m p) n
  by_cases h0 : n = 0
  · subst h0
    have hm := h.zero
    subst hm
    rw [nearest_zero]
    exact ⟨s, 0, -1074, read_zero s, is_zero s _⟩
  · have h1 : n.natAbs ≠ 0 := by omega
    rw [nearest_whole s m p n.natAbs h1 hn h.value]
    obtain ⟨_, _, hl⟩ := sig_range h1 hn
    refine ⟨s, _, _, read_whole s n.natAbs h1 hn, 52, by omega, ?_⟩
    have hs := h.sign h0
    have e : ((n.natAbs.log2 : Int) - 52 + (52 : Nat)).toNat = n.natAbs.log2 := by omega
    rw [e]
    have e2 : n.natAbs * 2 ^ (52 - n.natAbs.log2) * 2 ^ n.natAbs.log2 = n.natAbs * 2 ^ 52 := by
      rw [Nat.mul_assoc, ← Nat.pow_add]; congr 2; omega
    have e3 : ((n.natAbs * 2 ^ (52 - n.natAbs.log2) : Nat) : Int) * 2 ^ n.natAbs.log2 = (n.natAbs : Int) * 2 ^ 52 := by
      have := congrArg (fun x : Nat => (x : Int)) e2
      simpa [Int.natCast_mul, Int.natCast_pow] using this
    unfold sg
    rw [hs]
    by_cases hneg : n < 0
    · simp only [hneg, decide_true, if_true]
      rw [Int.neg_mul, e3, ← Int.neg_mul]
      congr 1; omega
    · simp only [hneg, decide_false, Bool.false_eq_true, if_false]
      rw [e3]
      congr 1; omega
set_option maxRecDepth 100000 in
theorem stands_int (n : Int) (hn : n.natAbs < 2 ^ 53) : Stands (floatOfInt .f64 n) n :=
  stands_write (is_whole (n < 0) n (fun _ => rfl)) hn
theorem sg_mul (s t : Bool) (m n : Nat) : sg (s ^^ t) (m * n) = sg s m * sg t n := by
  unfold sg
  cases s <;> cases t <;> simp [Int.natCast_mul, Int.neg_mul, Int.mul_neg]
theorem stands_mul {a b : Nat} {x y : Int} (ha : Stands a x) (hb : Stands b y) (h : (x * y).natAbs < 2 ^ 53) : ∃ r, floatBits .mul .f64 a b = some r ∧ Stands r (x * y) := by
  obtain ⟨s, m, p, hra, k, hk, e⟩ := ha
  obtain ⟨t, n, q, hrb, j, hj, e2⟩ := hb
  refine ⟨double.write (.number (s ^^ t) (m * n) (p + q)), ?_, stands_write ⟨k + j, by omega, ?_⟩ h⟩
  · show double.mul a b = _
    unfold Format.mul
    rw [hra, hrb]; rfl
  · rw [show (p + q + (k + j : Nat)).toNat = (p + k).toNat + (q + j).toNat by omega, Int.pow_add, Int.pow_add, sg_mul]
    have : sg s m * sg t n * (2 ^ (p + k).toNat * 2 ^ (q + j).toNat) = (sg s m * 2 ^ (p + k).toNat) * (sg t n * 2 ^ (q + j).toNat) := by
      simp only [Int.mul_assoc, Int.mul_left_comm]
    rw [this, e, e2]
    simp only [Int.mul_assoc, Int.mul_left_comm]
theorem signed_sg (s : Bool) (m up : Nat) : signed s m up = sg s m * 2 ^ up := by
  unfold signed sg
  rw [Nat.shiftLeft_eq]
  cases s <;> simp [Int.natCast_mul, Int.natCast_pow, Int.neg_mul]
theorem is_sum {s t : Bool} {m n : Nat} {p q x y : Int} (h1 : Is s m p x) (h2 : Is t n q y) (z : Bool) : Is (if signed s m (p - min p q).toNat + signed t n (q - min p q).toNat = 0 then z else decide (signed s m (p - min p q).toNat + signed t n (q - min p q).toNat < 0)) (signed s m (p - min p q).toNat + signed t n (q - min p q).toNat).natAbs (min p q) (x + y) := by
  obtain ⟨k, hk, e⟩ := h1
  obtain ⟨j, hj, e2⟩ := h2
  obtain ⟨hk', e'⟩ := Is.more hk e j
  obtain ⟨hj', e2'⟩ := Is.more hj e2 k
  refine ⟨k + j, by omega, ?_⟩
  have hsg : ∀ T : Int, sg (if T = 0 then z else decide (T < 0)) T.natAbs = T := fun T => by
    unfold sg
    by_cases h0 : T = 0
    · subst h0; simp
    · rw [if_neg h0]
      by_cases hl : T < 0
      · simp [hl]; omega
      · simp [hl]; omega
  rw [hsg, signed_sg, signed_sg, Int.add_mul, Int.mul_assoc, Int.mul_assoc, ← Int.pow_add, ← Int.pow_add]
  rw [show (p - min p q).toNat + (min p q + (k + j : Nat)).toNat = (p + (k + j : Nat)).toNat by omega,
    show (q - min p q).toNat + (min p q + (k + j : Nat)).toNat = (q + (j + k : Nat)).toNat by omega, e', e2', Int.add_mul, Nat.add_comm j k]
theorem stands_add {a b : Nat} {x y : Int} (ha : Stands a x) (hb : Stands b y) (h : (x + y).natAbs < 2 ^ 53) : ∃ r, floatBits .add .f64 a b = some r ∧ Stands r (x + y) := by
  obtain ⟨s, m, p, hra, ha⟩ := ha
  obtain ⟨t, n, q, hrb, hb⟩ := hb
  refine ⟨_, ?_, stands_write (is_sum ha hb (s && t)) h⟩
  show double.add a b = _
  unfold Format.add
  rw [hra, hrb]; rfl
theorem Is.neg {s : Bool} {m : Nat} {p n : Int} (h : Is s m p n) : Is (!s) m p (-n) := by
  obtain ⟨k, hk, e⟩ := h
  refine ⟨k, hk, ?_⟩
  have : sg (!s) m = - sg s m := by unfold sg; cases s <;> simp
  rw [this, Int.neg_mul, Int.neg_mul, e]
theorem stands_sub {a b : Nat} {x y : Int} (ha : Stands a x) (hb : Stands b y) (h : (x - y).natAbs < 2 ^ 53) : ∃ r, floatBits .sub .f64 a b = some r ∧ Stands r (x - y) := by
  obtain ⟨s, m, p, hra, ha⟩ := ha
  obtain ⟨t, n, q, hrb, hb⟩ := hb
  refine ⟨_, ?_, by have := stands_write (is_sum ha hb.neg (s && !t)) (by rw [← Int.sub_eq_add_neg]; exact h); rw [← Int.sub_eq_add_neg] at this; exact this⟩
  show double.sub a b = _
  unfold Format.sub
  rw [hra, hrb]; rfl
set_option maxRecDepth 100000 in
theorem stands_toInt {b : Nat} {n : Int} (h : Stands b n) (hn : n.natAbs < 2 ^ 53) : floatToIntVal .f64 b .i64 = some n := by
  obtain ⟨s, m, p, hr, hi⟩ := h
  unfold floatToIntVal
  have hcut : Toward.zero.cut s (m <<< p.toNat) (-p).toNat = n.natAbs := by
    rcases hi.value with ⟨hp, e⟩ | ⟨hp, e⟩
    · rw [show (-p).toNat = 0 by omega, Nat.shiftLeft_eq, ← e]
      simp [Toward.cut]
    · rw [show p.toNat = 0 by omega, Nat.shiftLeft_eq, Nat.pow_zero, Nat.mul_one]
      by_cases h0 : n = 0
      · subst h0
        have := hi.zero
        subst this
        simp [Toward.cut]
      · have hle : (-p).toNat ≤ m.log2 + 2 := by
          rw [e, log2_mul_pow _ _ (by omega)]; omega
        unfold Toward.cut
        rw [Nat.min_eq_left hle, Nat.shiftLeft_eq, Nat.one_mul, e]
        simp [Nat.mul_div_cancel _ (Nat.two_pow_pos _)]
  have hv : (FloatKind.f64.decode b).toInt .zero = some n := by
    show (double.read b).toInt .zero = some n
    rw [hr]
    unfold Datum.toInt Datum.integral
    simp only [hcut, signed_sg, Int.pow_zero, Int.mul_one]
    congr 1
    unfold sg
    by_cases h0 : n = 0
    · subst h0; simp
    · rw [hi.sign h0]
      by_cases hl : n < 0
      · simp [hl]; omega
      · simp [hl]; omega
  rw [hv]
  have h1 : IntKind.i64.min = -9223372036854775808 := rfl
  have h2 : IntKind.i64.max = 9223372036854775807 := rfl
  simp only [h1, h2]
  rw [if_pos (by omega)]

set_option maxRecDepth 100000 in
theorem xor_top (b : Nat) : (b ^^^ 2 ^ 63) % 2 ^ 63 = b % 2 ^ 63 ∧ ((b ^^^ 2 ^ 63) / 2 ^ 63 % 2 == 1) = !(b / 2 ^ 63 % 2 == 1) := by
  constructor
  · rw [Nat.xor_mod_two_pow, Nat.mod_self, Nat.xor_zero]
  · have h1 := Nat.testBit_eq_decide_div_mod_eq (x := b ^^^ 2 ^ 63) (i := 63)
    have h2 := Nat.testBit_eq_decide_div_mod_eq (x := b) (i := 63)
    rw [Nat.testBit_xor, h2, Nat.testBit_two_pow_self] at h1
    show decide ((b ^^^ 2 ^ 63) / 2 ^ 63 % 2 = 1) = !decide (b / 2 ^ 63 % 2 = 1)
    rw [← h1]
    cases decide (b / 2 ^ 63 % 2 = 1) <;> rfl
set_option maxRecDepth 100000 in
theorem stands_neg {b : Nat} {n : Int} (h : Stands b n) : Stands (b ^^^ 9223372036854775808) (-n) := by
  obtain ⟨s, m, p, hr, hi⟩ := h
  refine ⟨!s, m, p, ?_, hi.neg⟩
  obtain ⟨e1, e2⟩ := xor_top b
  rw [show (9223372036854775808 : Nat) = 2 ^ 63 from rfl]
  unfold Format.read at hr ⊢
  rw [sign_double] at hr ⊢
  simp only [e1, e2]
  simp only at hr
  split at hr
  · rename_i h1
    rw [if_pos h1]
    injection hr with a1 a2 a3
    subst a1 a2 a3
    rfl
  · rename_i h1
    rw [if_neg h1]
    split at hr
    · rename_i h2
      rw [if_pos h2]
      injection hr with a1 a2 a3
      subst a1 a2 a3
      rfl
    · rename_i h2
      split at hr <;> cases hr
theorem mul_pow_lt {a b : Int} {k : Nat} : a * 2 ^ k < b * 2 ^ k ↔ a < b :=
  ⟨fun h => Int.lt_of_mul_lt_mul_right h (Int.le_of_lt (Int.pow_pos (by decide))), fun h => Int.mul_lt_mul_of_pos_right h (Int.pow_pos (by decide))⟩
theorem stands_order {a b : Nat} {x y : Int} (ha : Stands a x) (hb : Stands b y) : double.order a b = some (compare x y) := by
  obtain ⟨s, m, p, hra, k, hk, e⟩ := ha
  obtain ⟨t, n, q, hrb, j, hj, e2⟩ := hb
  obtain ⟨hk', e'⟩ := Is.more hk e j
  obtain ⟨hj', e2'⟩ := Is.more hj e2 k
  have h1 : signed s m (p - min p q).toNat * 2 ^ (min p q + (k + j : Nat)).toNat = x * 2 ^ (k + j) := by
    rw [signed_sg, Int.mul_assoc, ← Int.pow_add, show (p - min p q).toNat + (min p q + (k + j : Nat)).toNat = (p + (k + j : Nat)).toNat by omega, e']
  have h2 : signed t n (q - min p q).toNat * 2 ^ (min p q + (k + j : Nat)).toNat = y * 2 ^ (k + j) := by
    rw [signed_sg, Int.mul_assoc, ← Int.pow_add, show (q - min p q).toNat + (min p q + (k + j : Nat)).toNat = (q + (j + k : Nat)).toNat by omega, e2', Nat.add_comm j k]
  unfold Format.order
  rw [hra, hrb]
  simp only [Datum.order]
  congr 1
  have hl : ∀ u v : Int, compare u v = if u < v then .lt else if u = v then .eq else .gt := fun u v => by
    simp only [compare, compareOfLessAndEq]
  rw [hl, hl]
  have c1 : signed s m (p - min p q).toNat < signed t n (q - min p q).toNat ↔ x < y := by rw [← mul_pow_lt (k := (min p q + (k + j : Nat)).toNat), h1, h2, mul_pow_lt]
  have c2 : signed t n (q - min p q).toNat < signed s m (p - min p q).toNat ↔ y < x := by rw [← mul_pow_lt (k := (min p q + (k + j : Nat)).toNat), h1, h2, mul_pow_lt]
  have c3 : signed s m (p - min p q).toNat = signed t n (q - min p q).toNat ↔ x = y := by
    constructor <;> intro h <;> omega
  by_cases g1 : x < y
  · rw [if_pos g1, if_pos (c1.2 g1)]
  · rw [if_neg g1, if_neg (fun h => g1 (c1.1 h))]
    by_cases g2 : x = y
    · rw [if_pos g2, if_pos (c3.2 g2)]
    · rw [if_neg g2, if_neg (fun h => g2 (c3.1 h))]
end Go.Proofs.YtcfghkphkmoikaaGreat
