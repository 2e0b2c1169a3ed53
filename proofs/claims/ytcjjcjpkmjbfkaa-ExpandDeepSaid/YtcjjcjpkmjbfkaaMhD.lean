/-
  Texts of this seat, put together: each with its own head.
-/
import Derived.Laws.ComplexArith
import Derived.Test.YtcjjcjpkmjbfkaaMhA
import Derived.Test.YtcjjcjpkmjbfkaaMhC

/-
  Whole numbers below 2^53 as float64: the words, and that sums, differences and products of them are exact.
-/
namespace Go.Proofs.Ytcjjcjpkmjbfkaa
open Ieee

/-- A number with a sign, a magnitude and a place is n (its sign told by neg, also of nought). -/
def ValueIs (m : Nat) (p : Int) (n : Nat) : Prop := (0 ≤ p ∧ n = m * 2 ^ p.toNat) ∨ (p < 0 ∧ m = n * 2 ^ (-p).toNat)

theorem log2_mul_pow (n k : Nat) (h : n ≠ 0) : (n * 2 ^ k).log2 = n.log2 + k := by
  induction k with
  | zero => simp
  | succ k ih =>
    rw [Nat.pow_succ, ← Nat.mul_assoc, Nat.mul_comm (n * 2 ^ k) 2, Nat.log2_two_mul (by have := Nat.pos_of_ne_zero h; have := Nat.two_pow_pos k; exact Nat.ne_of_gt (Nat.mul_pos ‹_› ‹_›)), ih]
    omega
/-- What is kept of a number that fits. -/
theorem cut_exact (neg : Bool) (x drop : Nat) (h : drop ≤ (x * 2 ^ drop).log2 + 2) : Toward.even.cut neg (x * 2 ^ drop) drop = x := by
  unfold Toward.cut
  rw [Nat.min_eq_left h]
  have hp := Nat.two_pow_pos drop
  have hgap : 1 <<< drop = 2 ^ drop := by rw [Nat.shiftLeft_eq, Nat.one_mul]
  have h1 : x * 2 ^ drop / 2 ^ drop = x := Nat.mul_div_cancel _ hp
  have h2 : x * 2 ^ drop % 2 ^ drop = 0 := Nat.mul_mod_left _ _
  simp only [hgap, h1, h2]
  have h3 : ¬ (2 ^ drop < 2 * 0) := by omega
  have h4 : (2 ^ drop == 2 * 0) = false := by simp
  simp [h4]
theorem least_double : double.leastPlace = -1074 := by decide
theorem frac_double : double.fractionBits = 52 := rfl
theorem binade_double : double.binade = 2 ^ 52 := rfl
theorem inf_double : double.infRung = 2047 * 2 ^ 52 := by decide
theorem sign_double : double.signWeight = 2 ^ 63 := rfl
/-- The rung of a whole number. -/
def rungOf (n : Nat) : Nat := (1022 + n.log2) * 2 ^ 52 + n * 2 ^ (52 - n.log2)
theorem sig_range {n : Nat} (h0 : n ≠ 0) (h : n < 2 ^ 53) : 2 ^ 52 ≤ n * 2 ^ (52 - n.log2) ∧ n * 2 ^ (52 - n.log2) < 2 ^ 53 ∧ n.log2 ≤ 52 := by
  have hl : n.log2 ≤ 52 := by
    have := (Nat.log2_lt h0).2 h
    omega
  have h1 := Nat.log2_self_le h0
  have h2 := Nat.lt_log2_self (n := n)
  have hp := Nat.two_pow_pos (52 - n.log2)
  refine ⟨?_, ?_, hl⟩
  · calc 2 ^ 52 = 2 ^ n.log2 * 2 ^ (52 - n.log2) := by rw [← Nat.pow_add]; congr 1; omega
      _ ≤ n * 2 ^ (52 - n.log2) := Nat.mul_le_mul_right _ h1
  · calc n * 2 ^ (52 - n.log2) < 2 ^ (n.log2 + 1) * 2 ^ (52 - n.log2) := Nat.mul_lt_mul_of_pos_right h2 hp
      _ = 2 ^ 53 := by rw [← Nat.pow_add]; congr 1; omega
theorem fit_rung (Q L S : Nat) (hl : L ≤ 52) (hs : S < 2 * Q) : (1022 + L) * Q + S ≤ 2047 * Q := by
  have : (1022 + L) * Q ≤ 1074 * Q := Nat.mul_le_mul_right _ (by omega)
  omega
set_option maxRecDepth 100000 in
/-- A number's word hangs on its value alone. -/
theorem nearest_whole (neg : Bool) (m : Nat) (p : Int) (n : Nat) (h0 : n ≠ 0) (hn : n < 2 ^ 53) (h : ValueIs m p n) : double.nearest neg m p = double.word neg (rungOf n) := by
  obtain ⟨s1, s2, hl⟩ := sig_range h0 hn
  have hm : m ≠ 0 := by
    rintro rfl
    rcases h with ⟨_, h⟩ | ⟨_, h⟩
    · simp at h; exact h0 h
    · have := Nat.mul_pos (Nat.pos_of_ne_zero h0) (Nat.two_pow_pos (-p).toNat); omega
  have hlog : (m.log2 : Int) + p = n.log2 := by
    rcases h with ⟨hp, h⟩ | ⟨hp, h⟩
    · rw [h, log2_mul_pow _ _ hm]; omega
    · rw [h, log2_mul_pow _ _ h0]; omega
  unfold Format.nearest
  rw [if_neg hm]
  have hlast : max (p + m.log2 - double.fractionBits) double.leastPlace = (n.log2 : Int) - 52 := by
    rw [least_double, frac_double]; omega
  simp only [hlast]
  have hkept : Toward.even.cut neg (m <<< (p - ((n.log2 : Int) - 52)).toNat) (((n.log2 : Int) - 52) - p).toNat = n * 2 ^ (52 - n.log2) := by
    generalize n.log2 = L at hl hlog ⊢
    by_cases hc : (L : Int) - 52 ≤ p
    · have e1 : (((L : Int) - 52) - p).toNat = 0 := by omega
      rw [e1]
      have := cut_exact neg (m <<< (p - ((L : Int) - 52)).toNat) 0 (by omega)
      rw [Nat.pow_zero, Nat.mul_one] at this
      rw [this, Nat.shiftLeft_eq]
      rcases h with ⟨hp, h⟩ | ⟨hp, h⟩
      · rw [h, Nat.mul_assoc, ← Nat.pow_add]
        congr 2; omega
      · rw [h, Nat.mul_assoc, ← Nat.pow_add]
        congr 2; omega
    · have e1 : (p - ((L : Int) - 52)).toNat = 0 := by omega
      rw [e1, Nat.shiftLeft_eq, Nat.pow_zero, Nat.mul_one]
      rcases h with ⟨hp, h⟩ | ⟨hp, h⟩
      · omega
      · have e2 : m = n * 2 ^ (52 - L) * 2 ^ (((L : Int) - 52) - p).toNat := by
          rw [h, Nat.mul_assoc, ← Nat.pow_add]
          congr 2; omega
        rw [e2]
        refine cut_exact neg _ _ ?_
        rw [← e2]
        omega
  rw [hkept, least_double, binade_double, inf_double]
  have e3 : ((n.log2 : Int) - 52 - -1074).toNat = 1022 + n.log2 := by omega
  rw [e3]
  unfold rungOf
  rw [Nat.min_eq_left (fit_rung (2 ^ 52) n.log2 _ hl (Nat.lt_of_lt_of_eq s2 rfl))]
set_option maxRecDepth 100000 in
/-- What such a word stands for. -/
theorem read_whole (neg : Bool) (n : Nat) (h0 : n ≠ 0) (hn : n < 2 ^ 53) : double.read (double.word neg (rungOf n)) = .number neg (n * 2 ^ (52 - n.log2)) ((n.log2 : Int) - 52) := by
  obtain ⟨s1, s2, hl⟩ := sig_range h0 hn
  have hr1 : rungOf n = (1023 + n.log2) * 2 ^ 52 + (n * 2 ^ (52 - n.log2) - 2 ^ 52) := by unfold rungOf; omega
  have hlow : n * 2 ^ (52 - n.log2) - 2 ^ 52 < 2 ^ 52 := by omega
  have hr2 : rungOf n < 2 ^ 63 := by
    rw [hr1]
    have : (1023 + n.log2) * 2 ^ 52 ≤ 1075 * 2 ^ 52 := Nat.mul_le_mul_right _ (by omega)
    omega
  have hneg : (double.word neg (rungOf n) / 2 ^ 63 % 2 == 1) = neg := by
    unfold Format.word
    rw [sign_double]
    cases neg
    · simp only [Bool.false_eq_true, if_false]
      rw [Nat.div_eq_of_lt hr2]; rfl
    · simp only [if_true]
      rw [Nat.add_div_left _ (by decide), Nat.div_eq_of_lt hr2]; rfl
  have hmod : double.word neg (rungOf n) % 2 ^ 63 = rungOf n := by
    unfold Format.word
    rw [sign_double]
    cases neg
    · simp only [Bool.false_eq_true, if_false]; exact Nat.mod_eq_of_lt hr2
    · simp only [if_true]; rw [Nat.add_mod_left]; exact Nat.mod_eq_of_lt hr2
  unfold Format.read
  rw [sign_double, hneg, hmod, binade_double, inf_double, least_double]
  have hd : rungOf n / 2 ^ 52 = 1023 + n.log2 := by rw [hr1, Nat.mul_comm, Nat.mul_add_div (by decide), Nat.div_eq_of_lt hlow]; rfl
  have hmd : rungOf n % 2 ^ 52 = n * 2 ^ (52 - n.log2) - 2 ^ 52 := by rw [hr1, Nat.mul_comm, Nat.mul_add_mod, Nat.mod_eq_of_lt hlow]
  have hge : ¬ rungOf n < 2 ^ 52 := by
    have : 1 * 2 ^ 52 ≤ (1023 + n.log2) * 2 ^ 52 := Nat.mul_le_mul_right _ (by omega)
    omega
  have hlt : rungOf n < 2047 * 2 ^ 52 := by
    have : (1023 + n.log2) * 2 ^ 52 ≤ 1075 * 2 ^ 52 := Nat.mul_le_mul_right _ (by omega)
    omega
  have e1 : 2 ^ 52 + (n * 2 ^ (52 - n.log2) - 2 ^ 52) = n * 2 ^ (52 - n.log2) := Nat.add_sub_of_le s1
  have e2 : (-1074 : Int) + ((1023 + n.log2 - 1 : Nat) : Int) = (n.log2 : Int) - 52 := by omega
  simp only [if_neg hge, if_pos hlt, hd, hmd, e1, e2]
theorem read_zero (neg : Bool) : double.read (double.word neg 0) = .number neg 0 (-1074) := by cases neg <;> decide
theorem nearest_zero (neg : Bool) (p : Int) : double.nearest neg 0 p = double.word neg 0 := by unfold Format.nearest; rw [if_pos rfl]
/-- A magnitude with its sign. -/
def sg (s : Bool) (m : Nat) : Int := if s then -(m : Int) else m
theorem sg_abs (s : Bool) (m : Nat) : (sg s m).natAbs = m := by unfold sg; split <;> omega
/-- Sign, magnitude and place are the whole number n. -/
def Is (s : Bool) (m : Nat) (p : Int) (n : Int) : Prop := ∃ k : Nat, 0 ≤ p + k ∧ sg s m * 2 ^ (p + k).toNat = n * 2 ^ k
theorem Is.more {s : Bool} {m : Nat} {p n : Int} {k : Nat} (h0 : 0 ≤ p + k) (h : sg s m * 2 ^ (p + k).toNat = n * 2 ^ k) (j : Nat) : 0 ≤ p + (k + j : Nat) ∧ sg s m * 2 ^ (p + (k + j : Nat)).toNat = n * 2 ^ (k + j) := by
  refine ⟨by omega, ?_⟩
  rw [show (p + (k + j : Nat)).toNat = (p + k).toNat + j by omega, Int.pow_add, Int.pow_add, ← Int.mul_assoc, h, Int.mul_assoc]
theorem Is.abs {s : Bool} {m : Nat} {p n : Int} (h : Is s m p n) : ∃ k : Nat, 0 ≤ p + k ∧ m * 2 ^ (p + k).toNat = n.natAbs * 2 ^ k := by
  obtain ⟨k, h0, h⟩ := h
  refine ⟨k, h0, ?_⟩
  have := congrArg Int.natAbs h
  rw [Int.natAbs_mul, Int.natAbs_mul, sg_abs, Int.natAbs_pow, Int.natAbs_pow] at this
  exact this
theorem Is.value {s : Bool} {m : Nat} {p n : Int} (h : Is s m p n) : ValueIs m p n.natAbs := by
  obtain ⟨k, h0, h⟩ := h.abs
  have hp := Nat.two_pow_pos k
  by_cases hpp : 0 ≤ p
  · refine .inl ⟨hpp, ?_⟩
    rw [show (p + k).toNat = p.toNat + k by omega, Nat.pow_add, ← Nat.mul_assoc] at h
    exact (Nat.eq_of_mul_eq_mul_right hp h).symm
  · refine .inr ⟨by omega, ?_⟩
    have hq := Nat.two_pow_pos (p + k).toNat
    rw [show k = (-p).toNat + (p + k).toNat by omega, Nat.pow_add, ← Nat.mul_assoc] at h
    rw [show (p + ((-p).toNat + (p + k).toNat : Nat)).toNat = (p + k).toNat by omega] at h
    exact Nat.eq_of_mul_eq_mul_right hq h
theorem Is.sign {s : Bool} {m : Nat} {p n : Int} (h : Is s m p n) (hn : n ≠ 0) : s = decide (n < 0) := by
  obtain ⟨k, h0, h⟩ := h
  have h1 : (0 : Int) < 2 ^ (p + k).toNat := Int.pow_pos (by decide)
  have h2 : (0 : Int) < 2 ^ k := Int.pow_pos (by decide)
  unfold sg at h
  cases s
  · simp only [Bool.false_eq_true, if_false] at h
    have : 0 ≤ n * 2 ^ k := by rw [← h]; exact Int.mul_nonneg (by omega) (by omega)
    have : 0 ≤ n := by
      rcases Int.lt_or_le n 0 with hl | hl
      · have := Int.mul_neg_of_neg_of_pos hl h2; omega
      · exact hl
    have hd : ¬ n < 0 := by omega
    simp [hd]
  · simp only [if_true] at h
    have h3 : -(m : Int) * 2 ^ (p + k).toNat ≤ 0 := by
      have : 0 ≤ (m : Int) * 2 ^ (p + k).toNat := Int.mul_nonneg (by omega) (by omega)
      rw [Int.neg_mul]; omega
    have : n < 0 := by
      rcases Int.lt_or_le n 0 with hl | hl
      · exact hl
      · have : 0 < n * 2 ^ k := Int.mul_pos (by omega) h2
        omega
    simp [this]
theorem Is.zero {s : Bool} {m : Nat} {p : Int} (h : Is s m p 0) : m = 0 := by
  rcases h.value with ⟨_, h⟩ | ⟨_, h⟩
  · have hp := Nat.two_pow_pos p.toNat
    simp at h
    rcases Nat.mul_eq_zero.1 h.symm with h | h
    · exact h
    · omega
  · simpa using h
/-- A word stands for the whole number n (nought may have either sign). -/
def Stands (b : Nat) (n : Int) : Prop := ∃ s m p, double.read b = .number s m p ∧ Is s m p n
theorem is_whole (s : Bool) (n : Int) (h : n ≠ 0 → s = decide (n < 0)) : Is s n.natAbs 0 n := by
  refine ⟨0, by omega, ?_⟩
  simp only [Int.add_zero, Int.toNat_zero, Int.pow_zero, Int.mul_one, Int.cast_ofNat_Int]
  unfold sg
  by_cases hn : n = 0
  · subst hn; simp
  · rw [h hn]
    by_cases hl : n < 0
    · simp [hl]; omega
    · simp [hl]; omega
theorem is_zero (s : Bool) (p : Int) : Is s 0 p 0 := ⟨p.natAbs, by omega, by unfold sg; split <;> simp⟩
set_option maxRecDepth 100000 in
theorem stands_write {s : Bool} {m : Nat} {p n : Int} (h : Is s m p n) (hn : n.natAbs < 2 ^ 53) : Stands (double.write (.number s m p)) n := by
  show Stands (double.nearest s m p) n
  by_cases h0 : n = 0
  · subst h0
    have hm := h.zero
    subst hm
    rw [nearest_zero]
    exact ⟨s, 0, -1074, read_zero s, is_zero s _⟩
  · have h1 : n.natAbs ≠ 0 := by omega
    rw [nearest_whole s m p n.natAbs h1 hn h.value]
    obtain ⟨_, _, hl⟩ := sig_range h1 hn
    refine ⟨s, _, _, read_whole s n.natAbs h1 hn, 52, by omega, ?_⟩
    have hs := h.sign h0
    have e : ((n.natAbs.log2 : Int) - 52 + (52 : Nat)).toNat = n.natAbs.log2 := by omega
    rw [e]
    have e2 : n.natAbs * 2 ^ (52 - n.natAbs.log2) * 2 ^ n.natAbs.log2 = n.natAbs * 2 ^ 52 := by
      rw [Nat.mul_assoc, ← Nat.pow_add]; congr 2; omega
    have e3 : ((n.natAbs * 2 ^ (52 - n.natAbs.log2) : Nat) : Int) * 2 ^ n.natAbs.log2 = (n.natAbs : Int) * 2 ^ 52 := by
      have := congrArg (fun x : Nat => (x : Int)) e2
      simpa [Int.natCast_mul, Int.natCast_pow] using this
    unfold sg
    rw [hs]
    by_cases hneg : n < 0
    · simp only [hneg, decide_true, if_true]
      rw [Int.neg_mul, e3, ← Int.neg_mul]
      congr 1; omega
    · simp only [hneg, decide_false, Bool.false_eq_true, if_false]
      rw [e3]
      congr 1; omega
set_option maxRecDepth 100000 in
theorem stands_int (n : Int) (hn : n.natAbs < 2 ^ 53) : Stands (floatOfInt .f64 n) n :=
  stands_write (is_whole (n < 0) n (fun _ => rfl)) hn
theorem sg_mul (s t : Bool) (m n : Nat) : sg (s ^^ t) (m * n) = sg s m * sg t n := by
  unfold sg
  cases s <;> cases t <;> simp [Int.natCast_mul, Int.neg_mul, Int.mul_neg]
theorem stands_mul {a b : Nat} {x y : Int} (ha : Stands a x) (hb : Stands b y) (h : (x * y).natAbs < 2 ^ 53) : ∃ r, floatBits .mul .f64 a b = some r ∧ Stands r (x * y) := by
  obtain ⟨s, m, p, hra, k, hk, e⟩ := ha
  obtain ⟨t, n, q, hrb, j, hj, e2⟩ := hb
  refine ⟨double.write (.number (s ^^ t) (m * n) (p + q)), ?_, stands_write ⟨k + j, by omega, ?_⟩ h⟩
  · show double.mul a b = _
    unfold Format.mul
    rw [hra, hrb]; rfl
  · rw [show (p + q + (k + j : Nat)).toNat = (p + k).toNat + (q + j).toNat by omega, Int.pow_add, Int.pow_add, sg_mul]
    have : sg s m * sg t n * (2 ^ (p + k).toNat * 2 ^ (q + j).toNat) = (sg s m * 2 ^ (p + k).toNat) * (sg t n * 2 ^ (q + j).toNat) := by
      simp only [Int.mul_assoc, Int.mul_left_comm]
    rw [this, e, e2]
    simp only [Int.mul_assoc, Int.mul_left_comm]
theorem signed_sg (s : Bool) (m up : Nat) : signed s m up = sg s m * 2 ^ up := by
  unfold signed sg
  rw [Nat.shiftLeft_eq]
  cases s <;> simp [Int.natCast_mul, Int.natCast_pow, Int.neg_mul]
theorem is_sum {s t : Bool} {m n : Nat} {p q x y : Int} (h1 : Is s m p x) (h2 : Is t n q y) (z : Bool) : Is (if signed s m (p - min p q).toNat + signed t n (q - min p q).toNat = 0 then z else decide (signed s m (p - min p q).toNat + signed t n (q - min p q).toNat < 0)) (signed s m (p - min p q).toNat + signed t n (q - min p q).toNat).natAbs (min p q) (x + y) := by
  obtain ⟨k, hk, e⟩ := h1
  obtain ⟨j, hj, e2⟩ := h2
  obtain ⟨hk', e'⟩ := Is.more hk e j
  obtain ⟨hj', e2'⟩ := Is.more hj e2 k
  refine ⟨k + j, by omega, ?_⟩
  have hsg : ∀ T : Int, sg (if T = 0 then z else decide (T < 0)) T.natAbs = T := fun T => by
    unfold sg
    by_cases h0 : T = 0
    · subst h0; simp
    · rw [if_neg h0]
      by_cases hl : T < 0
      · simp [hl]; omega
      · simp [hl]; omega
  rw [hsg, signed_sg, signed_sg, Int.add_mul, Int.mul_assoc, Int.mul_assoc, ← Int.pow_add, ← Int.pow_add]
  rw [show (p - min p q).toNat + (min p q + (k + j : Nat)).toNat = (p + (k + j : Nat)).toNat by omega,
    show (q - min p q).toNat + (min p q + (k + j : Nat)).toNat = (q + (j + k : Nat)).toNat by omega, e', e2', Int.add_mul, Nat.add_comm j k]
theorem stands_add {a b : Nat} {x y : Int} (ha : Stands a x) (hb : Stands b y) (h : (x + y).natAbs < 2 ^ 53) : ∃ r, floatBits .add .f64 a b = some r ∧ Stands r (x + y) := by
  obtain ⟨s, m, p, hra, ha⟩ := ha
  obtain ⟨t, n, q, hrb, hb⟩ := hb
  refine ⟨_, ?_, stands_write (is_sum ha hb (s && t)) h⟩
  show double.add a b = _
  unfold Format.add
  rw [hra, hrb]; rfl
theorem Is.neg {s : Bool} {m : Nat} {p n : Int} (h : Is s m p n) : Is (!s) m p (-n) := by
  obtain ⟨k, hk, e⟩ := h
  refine ⟨k, hk, ?_⟩
  have : sg (!s) m = - sg s m := by unfold sg; cases s <;> simp
  rw [this, Int.neg_mul, Int.neg_mul, e]
theorem stands_sub {a b : Nat} {x y : Int} (ha : Stands a x) (hb : Stands b y) (h : (x - y).natAbs < 2 ^ 53) : ∃ r, floatBits .sub .f64 a b = some r ∧ Stands r (x - y) := by
  obtain ⟨s, m, p, hra, ha⟩ := ha
  obtain ⟨t, n, q, hrb, hb⟩ := hb
  refine ⟨_, ?_, by have := stands_write (is_sum ha hb.neg (s && !t)) (by rw [← Int.sub_eq_add_neg]; exact h); rw [← Int.sub_eq_add_neg] at this; exact this⟩
  show double.sub a b = _
  unfold Format.sub
  rw [hra, hrb]; rfl
set_option maxRecDepth 100000 in
theorem stands_toInt {b : Nat} {n : Int} (h : Stands b n) (hn : n.natAbs < 2 ^ 53) : floatToIntVal .f64 b .i64 = some n := by
  obtain ⟨s, m, p, hr, hi⟩ := h
  unfold floatToIntVal
  have hcut : Toward.zero.cut s (m <<< p.toNat) (-p).toNat = n.natAbs := by
    rcases hi.value with ⟨hp, e⟩ | ⟨hp, e⟩
    · rw [show (-p).toNat = 0 by omega, Nat.shiftLeft_eq, ← e]
      simp [Toward.cut]
    · rw [show p.toNat = 0 by omega, Nat.shiftLeft_eq, Nat.pow_zero, Nat.mul_one]
      by_cases h0 : n = 0
      · subst h0
        have := hi.zero
        subst this
        simp [Toward.cut]
      · have hle : (-p).toNat ≤ m.log2 + 2 := by
          rw [e, log2_mul_pow _ _ (by omega)]; omega
        unfold Toward.cut
        rw [Nat.min_eq_left hle, Nat.shiftLeft_eq, Nat.one_mul, e]
        simp [Nat.mul_div_cancel _ (Nat.two_pow_pos _)]
  have hv : (FloatKind.f64.decode b).toInt .zero = some n := by
    show (double.read b).toInt .zero = some n
    rw [hr]
    unfold Datum.toInt Datum.integral
    simp only [hcut, signed_sg, Int.pow_zero, Int.mul_one]
    congr 1
    unfold sg
    by_cases h0 : n = 0
    · subst h0; simp
    · rw [hi.sign h0]
      by_cases hl : n < 0
      · simp [hl]; omega
      · simp [hl]; omega
  rw [hv]
  have h1 : IntKind.i64.min = -9223372036854775808 := rfl
  have h2 : IntKind.i64.max = 9223372036854775807 := rfl
  simp only [h1, h2]
  rw [if_pos (by omega)]

set_option maxRecDepth 100000 in
theorem xor_top (b : Nat) : (b ^^^ 2 ^ 63) % 2 ^ 63 = b % 2 ^ 63 ∧ ((b ^^^ 2 ^ 63) / 2 ^ 63 % 2 == 1) = !(b / 2 ^ 63 % 2 == 1) := by
  constructor
  · rw [Nat.xor_mod_two_pow, Nat.mod_self, Nat.xor_zero]
  · have h1 := Nat.testBit_eq_decide_div_mod_eq (x := b ^^^ 2 ^ 63) (i := 63)
    have h2 := Nat.testBit_eq_decide_div_mod_eq (x := b) (i := 63)
    rw [Nat.testBit_xor, h2, Nat.testBit_two_pow_self] at h1
    show decide ((b ^^^ 2 ^ 63) / 2 ^ 63 % 2 = 1) = !decide (b / 2 ^ 63 % 2 = 1)
    rw [← h1]
    cases decide (b / 2 ^ 63 % 2 = 1) <;> rfl
set_option maxRecDepth 100000 in
theorem stands_neg {b : Nat} {n : Int} (h : Stands b n) : Stands (b ^^^ 9223372036854775808) (-n) := by
  obtain ⟨s, m, p, hr, hi⟩ := h
  refine ⟨!s, m, p, ?_, hi.neg⟩
  obtain ⟨e1, e2⟩ := xor_top b
  rw [show (9223372036854775808 : Nat) = 2 ^ 63 from rfl]
  unfold Format.read at hr ⊢
  rw [sign_double] at hr ⊢
  simp only [e1, e2]
  simp only at hr
  split at hr
  · rename_i h1
    rw [if_pos h1]
    injection hr with a1 a2 a3
    subst a1 a2 a3
    rfl
  · rename_i h1
    rw [if_neg h1]
    split at hr
    · rename_i h2
      rw [if_pos h2]
      injection hr with a1 a2 a3
      subst a1 a2 a3
      rfl
    · rename_i h2
      split at hr <;> cases hr
theorem mul_pow_lt {a b : Int} {k : Nat} : a * 2 ^ k < b * 2 ^ k ↔ a < b :=
  ⟨fun h => Int.lt_of_mul_lt_mul_right h (Int.le_of_lt (Int.pow_pos (by decide))), fun h => Int.mul_lt_mul_of_pos_right h (Int.pow_pos (by decide))⟩
theorem stands_order {a b : Nat} {x y : Int} (ha : Stands a x) (hb : Stands b y) : double.order a b = some (compare x y) := by
  obtain ⟨s, m, p, hra, k, hk, e⟩ := ha
  obtain ⟨t, n, q, hrb, j, hj, e2⟩ := hb
  obtain ⟨hk', e'⟩ := Is.more hk e j
  obtain ⟨hj', e2'⟩ := Is.more hj e2 k
  have h1 : signed s m (p - min p q).toNat * 2 ^ (min p q + (k + j : Nat)).toNat = x * 2 ^ (k + j) := by
    rw [signed_sg, Int.mul_assoc, ← Int.pow_add, show (p - min p q).toNat + (min p q + (k + j : Nat)).toNat = (p + (k + j : Nat)).toNat by omega, e']
  have h2 : signed t n (q - min p q).toNat * 2 ^ (min p q + (k + j : Nat)).toNat = y * 2 ^ (k + j) := by
    rw [signed_sg, Int.mul_assoc, ← Int.pow_add, show (q - min p q).toNat + (min p q + (k + j : Nat)).toNat = (q + (j + k : Nat)).toNat by omega, e2', Nat.add_comm j k]
  unfold Format.order
  rw [hra, hrb]
  simp only [Datum.order]
  congr 1
  have hl : ∀ u v : Int, compare u v = if u < v then .lt else if u = v then .eq else .gt := fun u v => by
    simp only [compare, compareOfLessAndEq]
  rw [hl, hl]
  have c1 : signed s m (p - min p q).toNat < signed t n (q - min p q).toNat ↔ x < y := by rw [← mul_pow_lt (k := (min p q + (k + j : Nat)).toNat), h1, h2, mul_pow_lt]
  have c2 : signed t n (q - min p q).toNat < signed s m (p - min p q).toNat ↔ y < x := by rw [← mul_pow_lt (k := (min p q + (k + j : Nat)).toNat), h1, h2, mul_pow_lt]
  have c3 : signed s m (p - min p q).toNat = signed t n (q - min p q).toNat ↔ x = y := by
    constructor <;> intro h <;> omega
  by_cases g1 : x < y
  · rw [if_pos g1, if_pos (c1.2 g1)]
  · rw [if_neg g1, if_neg (fun h => g1 (c1.1 h))]
    by_cases g2 : x = y
    · rw [if_pos g2, if_pos (c3.2 g2)]
    · rw [if_neg g2, if_neg (fun h => g2 (c3.1 h))]
end Go.Proofs.Ytcjjcjpkmjbfkaa

/-
  Layer 10: points, slices of points; 'Good', walked.
-/
namespace Go.Proofs.Ytcjjcjpkmjbfkaa
open Go.RowKit
set_option linter.unusedVariables false

def Pt (x y : Int) : Value := .agg #[.int .i64 x, .int .i64 y]
/-- A slice's n points, in a block below B (nil and empty let in). -/
def RdP (w : World) (B : Nat) (A : Option Addr) (n : Nat) (X Y : Nat → Int) : Prop :=
  0 < n → ∃ b o, A = some ⟨b, o, none⟩ ∧ b < B ∧ ∀ j, j < n → w.cell? ⟨b, o + j * 2, none⟩ = some (.int .i64 (X j)) ∧ w.cell? ⟨b, o + j * 2 + 1, none⟩ = some (.int .i64 (Y j))
section
variable {w w' : World} {B B' n : Nat} {A : Option Addr} {X Y : Nat → Int}
theorem RdP.zero : RdP w B A 0 X Y := fun h => absurd h (by omega)
theorem RdP.keep (h : RdP w B A n X Y) (hk : ∀ b o, b < B → w'.cell? ⟨b, o, none⟩ = w.cell? ⟨b, o, none⟩) : RdP w' B A n X Y := fun hn => by
  obtain ⟨b, o, rfl, hb, hc⟩ := h hn
  exact ⟨b, o, rfl, hb, fun j hj => ⟨(hk _ _ hb).trans (hc j hj).1, (hk _ _ hb).trans (hc j hj).2⟩⟩
theorem RdP.more (h : RdP w B A n X Y) (hB : B ≤ B') : RdP w B' A n X Y := fun hn => by
  obtain ⟨b, o, rfl, hb, hc⟩ := h hn
  exact ⟨b, o, rfl, by omega, hc⟩
theorem RdP.on (h : RdP w w.heap.size A n X Y) (k : Since w w') : RdP w' w'.heap.size A n X Y := (h.keep fun b o hb => k.1 b o hb).more k.below.size
end
def goodB (x y : Int) : Bool := decide (-4194304 ≤ x ∧ x ≤ 4194304 ∧ -4194304 ≤ y ∧ y ≤ 4194304)
theorem goodB_iff {x y : Int} : goodB x y = true ↔ (-4194304 ≤ x ∧ x ≤ 4194304 ∧ -4194304 ≤ y ∧ y ≤ 4194304) := by unfold goodB; simp
def allG (X Y : Nat → Int) : Nat → Bool
  | 0 => true
  | n + 1 => allG X Y n && goodB (X n) (Y n)
theorem allG_iff {X Y : Nat → Int} {n : Nat} : allG X Y n = true ↔ ∀ j, j < n → goodB (X j) (Y j) = true := by
  induction n with
  | zero => simp [allG]
  | succ n ih =>
    simp only [allG, Bool.and_eq_true, ih]
    constructor
    · rintro ⟨h1, h2⟩ j hj
      by_cases e : j = n
      · subst e; exact h2
      · exact h1 j (by omega)
    · exact fun h => ⟨fun j hj => h j (by omega), h n (by omega)⟩
theorem allG_no {X Y : Nat → Int} {n j : Nat} (hj : j < n) (h : goodB (X j) (Y j) = false) : allG X Y n = false := by
  cases hh : allG X Y n with
  | false => rfl
  | true => rw [allG_iff.1 hh j hj] at h; cases h

set_option maxHeartbeats 4000000 in
theorem ga_good (A : Option Addr) (n c : Nat) (X Y : Nat → Int) (w : World) (h : RdP w w.heap.size A n X Y) (hX : ∀ j, j < n → In64 (X j) ∧ In64 (Y j)) (hn : n ≤ maxLen) :
    Calls Try.prog 61 #[.slice A n c] w fun e w' => e = .returned (.bool (allG X Y n)) ∧ Since w w' := by
  have hn' : (n : Int) ≤ 9223372036854775807 := by simp only [maxLen] at hn; omega
  go_enter Try.func61, Try.ntmps61
  go_wp2
  go_loopw [7] (fun y wr => ∃ j : Nat, j ≤ n ∧ y = .int .i64 (j : Int) ∧ Hid (allG X Y j = true) ∧ Since w wr) (fun y _ => n - (intOf y).toNat)
  case atStart => exact ⟨0, by omega, rfl, Lib.hid rfl, Since.refl _⟩
  case round =>
    obtain ⟨j, hj, rfl, HG, hSr⟩ := hrel
    by_cases hjn : j < n
    · have hjn' : (j : Int) < n := by omega
      obtain ⟨b, o, rfl, hb, hc⟩ := h (by omega)
      have c1 : wr.cell? ⟨b, o + j * 2, none⟩ = some (.int .i64 (X j)) := (hSr.1 _ _ hb).trans (hc j hjn).1
      have c2 : wr.cell? ⟨b, o + j * 2 + 1, none⟩ = some (.int .i64 (Y j)) := (hSr.1 _ _ hb).trans (hc j hjn).2
      have hx := hX j hjn
      have hblt : b < wr.heap.size := by have := hSr.below.size; omega
      clear hc h hX
      go_wp2
      all_goals first
        | (go_ret
           refine ⟨?_, by (repeat (first | with_reducible (exact Since.refl _) | with_reducible assumption | with_reducible (refine Since.drew ?_) | with_reducible (refine Since.drewN ?_ _) | with_reducible (refine Since.alloc ?_ _) | (with_reducible (refine Since.setCell ?_ ?_ _); rotate_left; focus (first | (simp; done) | (simp; omega) | omega)) | (with_reducible (refine Since.trans ?_ (by with_reducible assumption)))))⟩
           rw [allG_no (n := n) hjn (by unfold goodB; rw [decide_eq_false_iff_not]; intro hh; simp_all; try omega)]
           rfl)
        | (refine ⟨⟨j + 1, by omega, by simp, Lib.hid (by
             have hg : goodB (X j) (Y j) = true := goodB_iff.2 (by simp_all; try omega)
             simp only [allG, HG.out, hg, Bool.and_self]), by (repeat (first | with_reducible (exact Since.refl _) | with_reducible assumption | with_reducible (refine Since.drew ?_) | with_reducible (refine Since.drewN ?_ _) | with_reducible (refine Since.alloc ?_ _) | (with_reducible (refine Since.setCell ?_ ?_ _); rotate_left; focus (first | (simp; done) | (simp; omega) | omega)) | (with_reducible (refine Since.trans ?_ (by with_reducible assumption)))))⟩, by simp [intOf]; omega⟩)
        | trace_state
    · obtain rfl : j = n := by omega
      clear h hX
      go_wp2
      go_ret
      exact ⟨by rw [HG.out]; rfl, hSr⟩
end Go.Proofs.Ytcjjcjpkmjbfkaa

/-
  Layer 10: points as complex numbers, their products, walked.
-/
namespace Go.Proofs.Ytcjjcjpkmjbfkaa
open Go.RowKit
set_option linter.unusedVariables false

def fl (n : Int) : Nat := floatOfInt .f64 n
theorem fl_stands {n : Int} (h : n.natAbs ≤ 9007199254740991) : Stands (fl n) n := stands_int n (by omega)

/-- The conjugate of a + bi times c + di. -/
def inB (a b c d : Nat) : Nat × Nat := (cMulBits a (b ^^^ 9223372036854775808) c d).getD (0, 0)
def muB (a b c d : Nat) : Nat × Nat := (cMulBits a b c d).getD (0, 0)
/-- No farther from 0 than products of differences need. -/
def Near (n : Int) : Prop := -16777216 ≤ n ∧ n ≤ 16777216
theorem near_mul {p q : Int} (hp : Near p) (hq : Near q) : -281474976710656 ≤ p * q ∧ p * q ≤ 281474976710656 := by
  have h : (p * q).natAbs ≤ 281474976710656 := by
    rw [Int.natAbs_mul]
    unfold Near at hp hq
    exact Nat.le_trans (Nat.mul_le_mul (show p.natAbs ≤ 16777216 by omega) (show q.natAbs ≤ 16777216 by omega)) (by decide)
  omega
theorem mul_stands {a b c d : Nat} {p q r s : Int} (ha : Stands a p) (hb : Stands b q) (hc : Stands c r) (hd : Stands d s) (h1 : Near p) (h2 : Near q) (h3 : Near r) (h4 : Near s) :
    ∃ re im, cMulBits a b c d = some (re, im) ∧ Stands re (p * r - q * s) ∧ Stands im (p * s + q * r) := by
  have b1 := near_mul h1 h3; have b2 := near_mul h2 h4; have b3 := near_mul h1 h4; have b4 := near_mul h2 h3
  obtain ⟨x1, e1, s1⟩ := stands_mul ha hc (by omega)
  obtain ⟨x2, e2, s2⟩ := stands_mul hb hd (by omega)
  obtain ⟨x3, e3, s3⟩ := stands_sub s1 s2 (by omega)
  obtain ⟨x4, e4, s4⟩ := stands_mul ha hd (by omega)
  obtain ⟨x5, e5, s5⟩ := stands_mul hb hc (by omega)
  obtain ⟨x6, e6, s6⟩ := stands_add s4 s5 (by omega)
  exact ⟨x3, x6, by unfold cMulBits; simp only [e1, e2, e3, e4, e5, e6, Option.bind_some], s3, s6⟩
theorem muB_stands {a b c d : Nat} {p q r s : Int} (ha : Stands a p) (hb : Stands b q) (hc : Stands c r) (hd : Stands d s) (h1 : Near p) (h2 : Near q) (h3 : Near r) (h4 : Near s) :
    cMulBits a b c d = some ((muB a b c d).1, (muB a b c d).2) ∧ Stands (muB a b c d).1 (p * r - q * s) ∧ Stands (muB a b c d).2 (p * s + q * r) := by
  obtain ⟨re, im, e, s1, s2⟩ := mul_stands ha hb hc hd h1 h2 h3 h4
  unfold muB
  rw [e]
  exact ⟨rfl, s1, s2⟩
theorem inB_stands {a b c d : Nat} {p q r s : Int} (ha : Stands a p) (hb : Stands b q) (hc : Stands c r) (hd : Stands d s) (h1 : Near p) (h2 : Near q) (h3 : Near r) (h4 : Near s) :
    cMulBits a (b ^^^ 9223372036854775808) c d = some ((inB a b c d).1, (inB a b c d).2) ∧ Stands (inB a b c d).1 (p * r + q * s) ∧ Stands (inB a b c d).2 (p * s - q * r) := by
  obtain ⟨re, im, e, s1, s2⟩ := mul_stands ha (stands_neg hb) hc hd h1 (show Near (-q) by unfold Near at *; omega) h3 h4
  unfold inB
  rw [e]
  have e1 : p * r - -q * s = p * r + q * s := by rw [Int.neg_mul, Int.sub_neg]
  have e2 : p * s + -q * r = p * s - q * r := by rw [Int.neg_mul, Int.sub_eq_add_neg]
  rw [e1] at s1
  rw [e2] at s2
  exact ⟨rfl, s1, s2⟩
theorem neg_run (b : Nat) (w : World) : (Op.unary .neg (.float .f64 b)).run Try.prog w = .ok (.float .f64 (b ^^^ 9223372036854775808)) w := by
  simp [Op.unary, Op.negFloat, FloatKind.format, Ieee.double]
end Go.Proofs.Ytcjjcjpkmjbfkaa

/-
  Layer 10: 'Cross', 'Dot', 'Times', walked.
-/
namespace Go.Proofs.Ytcjjcjpkmjbfkaa
open Go.RowKit
set_option linter.unusedVariables false

def two (a b : Int) (j : Nat) : Int := if j = 0 then a else b
def three (a b c : Int) (j : Nat) : Int := if j = 0 then a else if j = 1 then b else c
theorem rdp_one (w : World) (b : Nat) (hb : b = w.heap.size) (x y : Int) (t : TypeId) : RdP (w.alloc (.cells #[.int .i64 x, .int .i64 y] t)) (w.alloc (.cells #[.int .i64 x, .int .i64 y] t)).heap.size (some ⟨b, 0, none⟩) 1 (fun _ => x) (fun _ => y) := fun _ => by
  subst hb
  refine ⟨w.heap.size, 0, rfl, by simp, fun j hj => ?_⟩
  obtain rfl : j = 0 := by omega
  exact ⟨by rw [World.cell?_alloc_new]; rfl, by rw [World.cell?_alloc_new]; rfl⟩
theorem rdp_two (w : World) (b : Nat) (hb : b = w.heap.size) (x y u v : Int) (t : TypeId) : RdP (w.alloc (.cells #[.int .i64 x, .int .i64 y, .int .i64 u, .int .i64 v] t)) (w.alloc (.cells #[.int .i64 x, .int .i64 y, .int .i64 u, .int .i64 v] t)).heap.size (some ⟨b, 0, none⟩) 2 (two x u) (two y v) := fun _ => by
  subst hb
  refine ⟨w.heap.size, 0, rfl, by simp, fun j hj => ?_⟩
  have h : j = 0 ∨ j = 1 := by omega
  rcases h with rfl | rfl <;> exact ⟨by rw [World.cell?_alloc_new]; rfl, by rw [World.cell?_alloc_new]; rfl⟩
theorem rdp_three (w : World) (b : Nat) (hb : b = w.heap.size) (x y u v p q : Int) (t : TypeId) : RdP (w.alloc (.cells #[.int .i64 x, .int .i64 y, .int .i64 u, .int .i64 v, .int .i64 p, .int .i64 q] t)) (w.alloc (.cells #[.int .i64 x, .int .i64 y, .int .i64 u, .int .i64 v, .int .i64 p, .int .i64 q] t)).heap.size (some ⟨b, 0, none⟩) 3 (three x u p) (three y v q) := fun _ => by
  subst hb
  refine ⟨w.heap.size, 0, rfl, by simp, fun j hj => ?_⟩
  have h : j = 0 ∨ j = 1 ∨ j = 2 := by omega
  rcases h with rfl | rfl | rfl <;> exact ⟨by rw [World.cell?_alloc_new]; rfl, by rw [World.cell?_alloc_new]; rfl⟩
theorem good1 (w : World) (b : Nat) (hb : b = w.heap.size) (x y : Int) (t : TypeId) (h : InP x y) : Calls Try.prog 61 #[.slice (some ⟨b, 0, none⟩) 1 1] (w.alloc (.cells #[.int .i64 x, .int .i64 y] t)) fun e w' => e = .returned (.bool (goodB x y)) ∧ Since (w.alloc (.cells #[.int .i64 x, .int .i64 y] t)) w' := by
  have h := ga_good _ 1 1 _ _ _ (rdp_one w b hb x y t) (fun j hj => h) (by decide)
  simpa [allG] using h
theorem good2 (w : World) (b : Nat) (hb : b = w.heap.size) (x y u v : Int) (t : TypeId) (h : InP x y) (h' : InP u v) : Calls Try.prog 61 #[.slice (some ⟨b, 0, none⟩) 2 2] (w.alloc (.cells #[.int .i64 x, .int .i64 y, .int .i64 u, .int .i64 v] t)) fun e w' => e = .returned (.bool (goodB x y && goodB u v)) ∧ Since (w.alloc (.cells #[.int .i64 x, .int .i64 y, .int .i64 u, .int .i64 v] t)) w' := by
  have h := ga_good _ 2 2 _ _ _ (rdp_two w b hb x y u v t) (fun j hj => by unfold two; split; exact h; exact h') (by decide)
  simpa [allG, two] using h
theorem good3 (w : World) (b : Nat) (hb : b = w.heap.size) (x y u v p q : Int) (t : TypeId) (h : InP x y) (h' : InP u v) (h'' : InP p q) : Calls Try.prog 61 #[.slice (some ⟨b, 0, none⟩) 3 3] (w.alloc (.cells #[.int .i64 x, .int .i64 y, .int .i64 u, .int .i64 v, .int .i64 p, .int .i64 q] t)) fun e w' => e = .returned (.bool (goodB x y && goodB u v && goodB p q)) ∧ Since (w.alloc (.cells #[.int .i64 x, .int .i64 y, .int .i64 u, .int .i64 v, .int .i64 p, .int .i64 q] t)) w' := by
  have h := ga_good _ 3 3 _ _ _ (rdp_three w b hb x y u v p q t) (fun j hj => by unfold three; split; exact h; split; exact h'; exact h'') (by decide)
  simpa [allG, three] using h
theorem good_near {x y : Int} (h : goodB x y = true) : Near x ∧ Near y ∧ x.natAbs ≤ 9007199254740991 ∧ y.natAbs ≤ 9007199254740991 := by
  have := goodB_iff.1 h
  unfold Near
  omega

/-- A block holds a point. -/
def PtAt (w : World) (b : Nat) (x y : Int) : Prop := w.cell? ⟨b, 0, none⟩ = some (.int .i64 x) ∧ w.cell? ⟨b, 1, none⟩ = some (.int .i64 y) ∧ b < w.heap.size
theorem PtAt.since {w w' : World} {b : Nat} {x y : Int} (h : PtAt w b x y) (k : Since w w') : PtAt w' b x y := ⟨(k.1 _ _ h.2.2).trans h.1, (k.1 _ _ h.2.2).trans h.2.1, k.2.2.1 _ h.2.2⟩
theorem PtAt.alloc {w : World} {b : Nat} {x y : Int} (h : PtAt w b x y) (o : Obj) : PtAt (w.alloc o) b x y := h.since ((Since.refl w).alloc o)
theorem pt_new (w : World) (b : Nat) (hb : b = w.heap.size) (x y : Int) (t : TypeId) : PtAt (w.alloc (.cells #[.int .i64 x, .int .i64 y] t)) b x y := by
  subst hb
  exact ⟨by rw [World.cell?_alloc_new]; rfl, by rw [World.cell?_alloc_new]; rfl, by simp⟩
/-- A block holds nought, and may be written. -/
def Zero2 (w : World) (b : Nat) : Prop := PtAt w b 0 0 ∧ ∀ j, w.frozen? ⟨b, j, none⟩ = false
theorem zero2_new (w : World) (b : Nat) (hb : b = w.heap.size) (t : TypeId) : Zero2 (w.alloc (.cells #[.int .i64 0, .int .i64 0] t)) b := by
  refine ⟨pt_new w b hb 0 0 t, fun j => ?_⟩
  subst hb
  rw [frozen?_alloc_cells]
  simp [World.frozen?]
theorem Zero2.since {w w' : World} {b : Nat} (h : Zero2 w b) (k : Since w w') : Zero2 w' b := ⟨h.1.since k, fun j => (k.2.1 _ _ h.1.2.2).trans (h.2 j)⟩
theorem Zero2.alloc {w : World} {b : Nat} (h : Zero2 w b) (o : Obj) : Zero2 (w.alloc o) b := h.since ((Since.refl w).alloc o)
def crossI (x y u v : Int) : Int := x * v - y * u
def dotI (x y u v : Int) : Int := x * u + y * v
def okE (b : Bool) : Int := if b then 0 else 6
def timesX (x y u v : Int) : Int := x * u - y * v
def timesY (x y u v : Int) : Int := x * v + y * u
end Go.Proofs.Ytcjjcjpkmjbfkaa

/-
  Layer 10: 'Turn', 'Quarter', walked.
-/
namespace Go.Proofs.Ytcjjcjpkmjbfkaa
open Go.RowKit
set_option linter.unusedVariables false

theorem stands_zero : Stands 0 0 := ⟨false, 0, -1074, by decide, is_zero false _⟩
theorem stands_one : Stands 4607182418800017408 1 := by
  have h := stands_int 1 (by decide)
  rw [show floatOfInt .f64 1 = 4607182418800017408 by decide +kernel] at h
  exact h
theorem order_self {b : Nat} {n : Int} (h : Stands b n) : FloatKind.f64.format.order b b = some .eq := by
  have := stands_order h h
  rw [show compare n n = .eq by simp [compare, compareOfLessAndEq]] at this
  exact this
def sgnI (n : Int) : Int := if n < 0 then -1 else if n = 0 then 0 else 1

/-- The difference of two points as complex numbers. -/
def suB (a b c d : Nat) : Nat × Nat := (cSumBits .sub .f64 a b c d).getD (0, 0)
theorem suB_stands {a b c d : Nat} {p q r s : Int} (ha : Stands a p) (hb : Stands b q) (hc : Stands c r) (hd : Stands d s) (h1 : (p - r).natAbs < 2 ^ 53) (h2 : (q - s).natAbs < 2 ^ 53) :
    cSumBits .sub .f64 a b c d = some ((suB a b c d).1, (suB a b c d).2) ∧ Stands (suB a b c d).1 (p - r) ∧ Stands (suB a b c d).2 (q - s) := by
  obtain ⟨x1, e1, s1⟩ := stands_sub ha hc h1
  obtain ⟨x2, e2, s2⟩ := stands_sub hb hd h2
  have e : cSumBits .sub .f64 a b c d = some (x1, x2) := by unfold cSumBits; simp only [e1, e2, Option.bind_some]
  unfold suB
  rw [e]
  exact ⟨rfl, s1, s2⟩
def turnI (x y u v p q : Int) : Int := sgnI (crossI (u - x) (v - y) (p - x) (q - y))

end Go.Proofs.Ytcjjcjpkmjbfkaa

/-
  Layer 15: lines in memory; 'between', 'apart', 'vector', 'product', 'On', walked.
-/
namespace Go.Proofs.Ytcjjcjpkmjbfkaa
open Go.RowKit
set_option linter.unusedVariables false

/-- A line's numbers. -/
structure Ln where
  (ax ay bx bz : Int)
def Ln.v (l : Ln) : Value := .agg #[.int .i64 l.ax, .int .i64 l.ay, .int .i64 l.bx, .int .i64 l.bz]
def Ln.wf (l : Ln) : Prop := InP l.ax l.ay ∧ InP l.bx l.bz
def LnAt (w : World) (b : Nat) (l : Ln) : Prop := w.cell? ⟨b, 0, none⟩ = some (.int .i64 l.ax) ∧ w.cell? ⟨b, 1, none⟩ = some (.int .i64 l.ay) ∧ w.cell? ⟨b, 2, none⟩ = some (.int .i64 l.bx) ∧ w.cell? ⟨b, 3, none⟩ = some (.int .i64 l.bz) ∧ b < w.heap.size
section
variable {w w' : World} {b : Nat} {l : Ln}
theorem LnAt.since (h : LnAt w b l) (k : Since w w') : LnAt w' b l := by
  obtain ⟨h1, h2, h3, h4, h5⟩ := h
  exact ⟨(k.1 _ _ h5).trans h1, (k.1 _ _ h5).trans h2, (k.1 _ _ h5).trans h3, (k.1 _ _ h5).trans h4, k.2.2.1 _ h5⟩
theorem LnAt.alloc (h : LnAt w b l) (o : Obj) : LnAt (w.alloc o) b l := h.since ((Since.refl w).alloc o)
theorem LnAt.drew (h : LnAt w b l) : LnAt w.drew b l := h
theorem ln_new (w : World) (b : Nat) (hb : b = w.heap.size) (l : Ln) (t : TypeId) : LnAt (w.alloc (.cells #[.int .i64 l.ax, .int .i64 l.ay, .int .i64 l.bx, .int .i64 l.bz] t)) b l := by
  subst hb
  refine ⟨?_, ?_, ?_, ?_, by simp⟩ <;> (rw [World.cell?_alloc_new]; rfl)
end
def lo2 (a b : Int) : Int := if b < a then b else a
def hi2 (a b : Int) : Int := if a < b then b else a
def btw (a n b : Int) : Bool := decide (lo2 a b ≤ n) && decide (n ≤ hi2 a b)
def aprt (a b c d : Int) : Bool := decide (hi2 a b < lo2 c d) || decide (hi2 c d < lo2 a b)
theorem min2_run : ∀ (A B : Int) (w : World), (Builtin.min_ #[3, 3] 3 #[.int .i64 A, .int .i64 B]).run Try.prog w = .ok (.int .i64 (lo2 A B)) w := fun _ _ _ => rfl
theorem max2_run : ∀ (A B : Int) (w : World), (Builtin.max_ #[3, 3] 3 #[.int .i64 A, .int .i64 B]).run Try.prog w = .ok (.int .i64 (hi2 A B)) w := fun _ _ _ => rfl
end Go.Proofs.Ytcjjcjpkmjbfkaa

/-
  Layer 11: 'Lift', walked.
-/
namespace Go.Proofs.Ytcjjcjpkmjbfkaa
open Go.RowKit Go.ChangeShapes Go.WideShapes Go.Deep
set_option linter.unusedVariables false

def liftK (k : Kt) : Kt := ⟨64 * k.x, 64 * k.y, k.o⟩
def inUnit (k : Kt) : Prop := -32768 ≤ k.x ∧ k.x ≤ 32767 ∧ -32768 ≤ k.y ∧ k.y ≤ 32767
instance (k : Kt) : Decidable (inUnit k) := by unfold inUnit; infer_instance
def K0 : Kt := ⟨0, 0, false⟩
/-- All of the knots ahead of a place are in range. -/
def allIn (LL : List (List Kt)) : Prop := ∀ L, L ∈ LL → ∀ k, k ∈ L → inUnit k
theorem lift_fill (L : List Kt) (i : Nat) (hi : i < L.length) :
    ((L.take i).map liftK ++ List.replicate (L.length - i) K0).set i (liftK L[i]) = (L.take (i + 1)).map liftK ++ List.replicate (L.length - (i + 1)) K0 := by
  have hl : ((L.take i).map liftK).length = i := by simp; omega
  rw [List.set_append_right _ _ (by omega), hl, Nat.sub_self, List.take_succ_eq_append_getElem hi, List.map_append, List.append_assoc]
  congr 1
  obtain ⟨d, hd⟩ : ∃ d, L.length - i = d + 1 := ⟨L.length - i - 1, by omega⟩
  rw [hd, List.replicate_succ, show L.length - (i + 1) = d by omega]
  rfl
theorem fill_len (L : List Kt) (i : Nat) (hi : i ≤ L.length) : ((L.take i).map liftK ++ List.replicate (L.length - i) K0).length = L.length := by simp; omega
/-- What 'Lift' answers. -/
def LiftOut (w : World) (LL : List (List Kt)) (e : Ending) (w' : World) : Prop :=
  (allIn LL ∧ ∃ v base, e = .returned (.tuple #[v, .int .i64 0]) ∧ w.heap.size ≤ base ∧ OwnO w' base v (LL.map (List.map liftK)) ∧ Since w w') ∨ (¬ allIn LL ∧ e = .returned (.tuple #[.slice none 0 0, .int .i64 6]) ∧ Since w w')
set_option maxRecDepth 1000000 in
set_option maxHeartbeats 32000000 in
theorem ou_lift (A : Option Addr) (c : Nat) (LL : List (List Kt)) (w : World) (h : RdOL w w.heap.size A LL) (hn : LL.length ≤ 1000000) (hm : ∀ L, L ∈ LL → L.length ≤ 1000000) :
    Calls Try.prog 42 #[.slice A LL.length c] w (LiftOut w LL) := by
  obtain ⟨N, hN⟩ : ∃ N, N = LL.length := ⟨_, rfl⟩
  rw [← hN] at hn ⊢
  have HN := Lib.hid hN
  have HM := Lib.hid hm
  have hmin := min2_run
  have hmax := max2_run
  clear hN hm
  have hNI : (0 : Int) ≤ (N : Int) := by omega
  go_enter Try.func42, Try.ntmps42
  go_wp2_with (at_make; refine wpList_make_g rfl _ _ 27 64 rfl (by omega) hdL_len 24 ⟨none, 0, 0⟩ Try.underlying27 infoCt2 N rfl rfl (by omega) (by simp only [maxLen]; omega) w.heap.size (Nat.le_refl _) ?_; intro w1 hO1 hg1)
  have hS1 : Since w w1 := since_grown (Since.refl w) hg1 (fun q hq => by cases hq)
  have hb1 := (hO1.lt (g := w.heap.size) rfl).2
  obtain ⟨hb0, hbe⟩ : ∃ hb0, hb0 = w.heap.size := ⟨_, rfl⟩
  have hbw : w.heap.size ≤ hb0 := by omega
  rw [← hbe] at hb1 ⊢
  have hO1 : OwnG 64 1 hdL w1 w.heap.size (.slice (some ⟨hb0, 0, none⟩) N N) (List.replicate N ⟨none, 0, 0⟩) := by rw [hbe]; exact hO1
  clear hbe hg1
  go_loopw [14] (fun y wr => ∃ (j : Nat) (hs : List Hd), j ≤ N ∧ y = .int .i64 (j : Int) ∧ hs.length = N ∧ OwnG 64 1 hdL wr w.heap.size (.slice (some ⟨hb0, 0, none⟩) N N) hs ∧ Since w wr ∧ Hid ((∀ (i : Nat) x L, i < j → hs[i]? = some x → LL[i]? = some L → OwnK wr w.heap.size (.slice x.A x.n x.c) (L.map liftK)) ∧ ∀ (i : Nat) L, i < j → LL[i]? = some L → ∀ k, k ∈ L → inUnit k)) (fun y _ => N - (intOf y).toNat)
  case atStart => exact ⟨0, _, by omega, rfl, by simp, hO1, hS1, Lib.hid ⟨fun i x L hi => absurd hi (by omega), fun i L hi => absurd hi (by omega)⟩⟩
  case round =>
    obtain ⟨j, hs, hj, rfl, hsl, hO, hS, HK⟩ := hrel
    by_cases hjn : j < N
    · have hjn' : (j : Int) < N := by omega
      have hjL : j < LL.length := by rw [← HN.out]; exact hjn
      have hL : LL[j]? = some LL[j] := List.getElem?_eq_getElem hjL
      have hml := HM.out _ (List.mem_of_getElem? hL)
      have HLJ := Lib.hid hL
      generalize LL[j] = L at *
      obtain ⟨b, o, A', c', rfl, hb, hcell, hK⟩ := h.row hL
      have c1 := (hS.1 _ _ hb).trans hcell
      have hbw1 := hS.2.2.1 _ hb
      have hwz := hS.below.size
      have hbz := (hO.lt (g := hb0) rfl).2
      obtain ⟨n, hnl⟩ : ∃ n, n = L.length := ⟨_, rfl⟩
      rw [← hnl] at hml c1
      have HNL := Lib.hid hnl
      clear hL h hcell hjL hnl
      have hOr : wr.ownsRow w.heap.size 64 1 (.slice (some ⟨hb0, 0, none⟩) N N) N (cellsG hdL hs) := by
        have hx := hO
        unfold OwnG at hx
        rw [hsl] at hx
        exact hx
      have hfz := World.ownsRow.frozenAt hOr j
      clear hOr
      have hcj : wr.cell? ⟨hb0, j, none⟩ = some (.slice (hs.getD j ⟨none, 0, 0⟩).A (hs.getD j ⟨none, 0, 0⟩).n (hs.getD j ⟨none, 0, 0⟩).c) := by
        have hx : hs[j]? = some hs[j] := List.getElem?_eq_getElem (by omega)
        obtain ⟨A2, c2, e, _, hr2⟩ := hO.rd (by omega) hdL_len
        injection e with e1 e2 e3
        subst e1
        obtain ⟨b3, o3, e4, _, hc3⟩ := hr2 (by omega)
        injection e4 with e4
        injection e4 with e5 e6
        subst e5 e6
        have := hc3 j _ hx 0 (by omega)
        rw [Nat.zero_add, Nat.mul_one, Nat.add_zero] at this
        have hgd : hs.getD j ⟨none, 0, 0⟩ = hs[j] := by rw [List.getD_eq_getElem?_getD, hx]; rfl
        rw [this, hgd]
        rfl
      generalize hs.getD j ⟨none, 0, 0⟩ = h0 at *
      go_upto_region 6 with (at_make; refine wpList_make_g rfl _ _ 64 62 rfl (by omega) knL_len 24 K0 Try.underlying64 infoKn2 n rfl rfl (by omega) (by simp only [maxLen]; omega) w.heap.size hwz ?_; intro w4 hO4 hg4; have hc4 := cell_grown hcj hbz hg4 (by simp); have hf4 : w4.frozen? ⟨hb0, j, none⟩ = false := (by rw [← hfz]; exact World.frozen?_of_block (hg4.block hb0 hbz (by simp))); have hz4 := Nat.lt_of_lt_of_le hbz hg4.size)
      obtain ⟨q, hq0⟩ : ∃ q, q = wr.heap.size := ⟨_, rfl⟩
      have hrows : Hid ((∀ (i : Nat) x M, i < j → hs[i]? = some x → LL[i]? = some M → OwnK w4 w.heap.size (.slice x.A x.n x.c) (M.map liftK) ∧ (Value.slice x.A x.n x.c).ownBlock ≠ some q) ∧ ∀ (i : Nat) M, i < j → LL[i]? = some M → ∀ k, k ∈ M → inUnit k) := Lib.hid ⟨fun i x M h1 h2 h3 => by
        have hk := HK.out.1 i x M h1 h2 h3
        exact ⟨OwnG.grown hk hg4 (fun q hq e => by cases e), fun e => by have := (hk.lt e).2; omega⟩, HK.out.2⟩
      have hOh := OwnG.grown hO hg4 (fun q hq e => by cases e)
      have hS4 : Since w w4 := since_grown hS hg4 (fun q hq => by cases hq)
      have hbq : hb0 ≠ q := by omega
      have hqw : w.heap.size ≤ q := by omega
      have hq4 : q < w4.heap.size := by rw [hq0]; exact (hO4.lt rfl).2
      rw [← hq0] at hO4 ⊢
      clear hq0 hO hS HK hcj hfz hg4 c1 hbw1 hwz hbz
      have hne : 64 ≠ 62 := by decide
      go_upto_region 6 with fail
      refine wp_named fun w5 hw5 => ?_
      have hkb : KeepBut hb0 w4 w5 := by subst hw5; exact (KeepBut.refl hb0 w4).set j _
      have hc5 : w5.cell? ⟨hb0, j, none⟩ = some (.slice (some ⟨q, 0, none⟩) n n) := by subst hw5; rw [cell_set, if_pos ⟨rfl, rfl⟩, hc4]; rfl
      have hOw4 := hOh
      have hOh : OwnG 64 1 hdL w5 w.heap.size (.slice (some ⟨hb0, 0, none⟩) N N) (hs.set j ⟨some ⟨q, 0, none⟩, n, n⟩) := by subst hw5; exact OwnH.put hOh j (some ⟨q, 0, none⟩) n n (by omega)
      have hO5 := OwnG.but hO4 hkb (fun e => by injection e with e; exact hbq e.symm)
      have hS5 : Since w w5 := by subst hw5; exact hS4.setCell hbw _
      have hz5 := hkb.1
      have hb5 : hb0 < w5.heap.size := by omega
      have HR5 : Hid ((∀ (i : Nat) x M, i < j → hs[i]? = some x → LL[i]? = some M → OwnK w5 w.heap.size (.slice x.A x.n x.c) (M.map liftK) ∧ (Value.slice x.A x.n x.c).ownBlock ≠ some q) ∧ ∀ (i : Nat) M, i < j → LL[i]? = some M → ∀ k, k ∈ M → inUnit k) := Lib.hid ⟨fun i x M h1 h2 h3 => by
        obtain ⟨hk, hx⟩ := hrows.out.1 i x M h1 h2 h3
        refine ⟨OwnG.but hk hkb (fun e => ?_), hx⟩
        exact own_apart hOw4 hk hne rfl e, hrows.out.2⟩
      have hO5 : OwnK w5 w.heap.size (.slice (some ⟨q, 0, none⟩) n n) ((L.take 0).map liftK ++ List.replicate (n - 0) K0) := by simpa using hO5
      clear hkb hc4 hf4 hz4 hOw4 hO4 hrows hS4 hq4 hw5
      go_wp2_with fail
      go_loopw [27] (fun y wr' => ∃ k : Nat, k ≤ n ∧ y = .int .i64 (k : Int) ∧ OwnK wr' w.heap.size (.slice (some ⟨q, 0, none⟩) n n) ((L.take k).map liftK ++ List.replicate (n - k) K0) ∧ KeepBut q w5 wr' ∧ Since w wr' ∧ Hid (∀ (t : Nat) K, t < k → L[t]? = some K → inUnit K)) (fun y _ => n - (intOf y).toNat)
      case atStart => exact ⟨0, by omega, rfl, hO5, KeepBut.refl _ _, hS5, Lib.hid (fun t K ht => absurd ht (by omega))⟩
      case round =>
        obtain ⟨k, hk, rfl, hO, hkp, hS, HU⟩ := hrel
        by_cases hkn : k < n
        · have hkn' : (k : Int) < n := by omega
          have hkl : k < L.length := by rw [← HNL.out]; exact hkn
          have hkL : L[k]? = some L[k] := List.getElem?_eq_getElem hkl
          have hfill := lift_fill L k hkl
          obtain ⟨bk, ok, rfl, hbk, hck⟩ := hK (by omega)
          have c1 := (hS.1 _ _ hbk).trans (hck k _ hkL 0 (by omega))
          have c2 := (hS.1 _ _ hbk).trans (hck k _ hkL 1 (by omega))
          have c3 := (hS.1 _ _ hbk).trans (hck k _ hkL 2 (by omega))
          have hbw1 := hS.2.2.1 _ hbk
          rw [← HNL.out] at hfill
          have HF := Lib.hid hfill
          have HKL := Lib.hid hkL
          clear hfill hkL hck hK
          generalize L[k] = K at *
          obtain ⟨x, y, o⟩ := K
          simp only [knL, List.getD_cons_succ, List.getD_cons_zero, Nat.add_zero] at c1 c2 c3
          go_upto_region 9 with fail
          refine wp_named fun w6 hw6 => ?_
          have rT : Row w6 wr.heap.size 3 (Kf x y o) := by subst hw6; exact krow wr _ rfl _ _ _ _
          have hS6 : Since wr w6 := by subst hw6; (repeat (first | with_reducible (exact Since.refl _) | with_reducible assumption | with_reducible (refine Since.drew ?_) | with_reducible (refine Since.drewN ?_ _) | with_reducible (refine Since.alloc ?_ _) | (with_reducible (refine Since.setCell ?_ ?_ _); rotate_left; focus (first | (simp; done) | (simp; omega) | omega)) | (with_reducible (refine Since.trans ?_ (by with_reducible assumption)))))
          clear hw6 c1 c2 c3 hbw1
          have hO := OwnG.since hO hS6
          have hkp := hkp.since hS6
          have hS := hS.trans hS6
          have hz6 := hkp.1
          generalize wr.heap.size = tb at *
          obtain ⟨t1, t2, t3, t4⟩ := kcells rT
          have hc6 := hkp.cell hc5 hb5 hbq
          have hb6 : hb0 < w6.heap.size := by omega
          by_cases hin : inUnit ⟨x, y, o⟩
          · obtain ⟨v1, v2, v3, v4⟩ := hin
            simp only at v1 v2 v3 v4
            have d1 : decide ((32767 : Int) < hi2 x y) = false := by unfold hi2; split <;> simp <;> omega
            have d2 : decide (lo2 x y < (-32768 : Int)) = false := by unfold lo2; split <;> simp <;> omega
            have u1 : IntKind.i64.wrap (64 * x) = 64 * x := IntWalk.i64_in _ (by omega)
            have u2 : IntKind.i64.wrap (64 * y) = 64 * y := IntWalk.i64_in _ (by omega)
            have hin : inUnit ⟨x, y, o⟩ := ⟨v1, v2, v3, v4⟩
            have HIN := Lib.hid hin
            clear hin v1 v2 v3 v4
            have hol : ((L.take k).map liftK ++ List.replicate (n - k) K0).length = n := by rw [HNL.out]; exact fill_len L k (by omega)
            obtain ⟨A2, c2, e2, _, hr2⟩ := OwnG.rd (by omega) knL_len hO
            injection e2 with e2 e2a e2b
            subst e2
            clear e2a e2b
            obtain ⟨b3, o3, e4, hb3, hc3⟩ := hr2 (by omega)
            injection e4 with e4
            injection e4 with e5 e6
            subst e5 e6
            have hgk := hc3 k _ (List.getElem?_eq_getElem (by omega))
            have p1 := hgk 0 (by omega)
            have p2 := hgk 1 (by omega)
            have p3 := hgk 2 (by omega)
            generalize ((L.take k).map liftK ++ List.replicate (n - k) K0)[k]'(by omega) = KX at *
            simp only [knL, List.getD_cons_succ, List.getD_cons_zero, Nat.add_zero, Nat.zero_add] at p1 p2 p3
            have hor : w6.ownsRow w.heap.size 62 3 (.slice (some ⟨q, 0, none⟩) n n) n (cellsG knL ((L.take k).map liftK ++ List.replicate (n - k) K0)) := by
              have hx := hO
              unfold OwnK OwnG at hx
              rw [hol] at hx
              exact hx
            have f1 := World.ownsRow.frozenAt hor (k * 3)
            have f2 := World.ownsRow.frozenAt hor (k * 3 + 1)
            have f3 := World.ownsRow.frozenAt hor (k * 3 + 2)
            clear hor hgk hc3 hr2
            go_upto_region 11 with fail
            have hnext : Hid (∀ (t : Nat) K, t < k + 1 → L[t]? = some K → inUnit K) := Lib.hid (fun t K ht hK => by
              by_cases e : t = k
              · subst e
                rw [HKL.out] at hK
                injection hK with hK
                rw [← hK]
                exact HIN.out
              · exact HU.out t K (by omega) hK)
            have HOL := Lib.hid hol
            have HSL := Lib.hid hsl
            have HO := Lib.hid hO
            have HKP := Lib.hid hkp
            have HS := Lib.hid hS
            have HOH := Lib.hid hOh
            have HNE := Lib.hid hne
            clear hol hsl hmin hmax hO hkp hS hOh hne d1 d2 hc5 hS5 hS1 hO1 hO5 rT hz5 hz6 hNI
            go_region
            all_goals (go_wp2_with fail)
            all_goals go_roundw
            all_goals first
              | (simp [intOf]; omega)
              | (refine ⟨k + 1, by omega, by go_num, ?_, ((HKP.out.set _ _).set _ _).set _ _, ((HS.out.drew.setCell hqw _).setCell hqw _).setCell hqw _, hnext⟩; rw [← HF.out]; exact OwnK.put HO.out k _ _ _ (by rw [HOL.out]; omega))
          · have hout : ¬ allIn LL := fun ha => hin (ha L (List.mem_of_getElem? HLJ.out) _ (List.mem_of_getElem? HKL.out))
            have HOUT := Lib.hid hout
            have hd : hi2 x y > 32767 ∨ lo2 x y < -32768 := by
              unfold inUnit at hin
              simp only at hin
              unfold hi2 lo2
              split <;> split <;> omega
            clear hin hout
            by_cases h3 : hi2 x y > 32767
            · have d1 : decide ((32767 : Int) < hi2 x y) = true := by simp; omega
              go_wp2_with fail
              refine bodyPost_ret (v := .tuple #[.slice none 0 0, .int .i64 6]) (by simp only [results, Try.results42]; go_simp) rfl ?_
              exact .inr ⟨HOUT.out, rfl, hS⟩
            · have d1 : decide ((32767 : Int) < hi2 x y) = false := by simp; omega
              have d2 : decide (lo2 x y < (-32768 : Int)) = true := by simp; omega
              go_wp2_with fail
              refine bodyPost_ret (v := .tuple #[.slice none 0 0, .int .i64 6]) (by simp only [results, Try.results42]; go_simp) rfl ?_
              exact .inr ⟨HOUT.out, rfl, hS⟩
        · obtain rfl : n = k := by omega
          go_wp2_with fail
          go_roundw
          case rel =>
            have hend : OwnK wr w.heap.size (.slice (some ⟨q, 0, none⟩) n n) (L.map liftK) := by
              have e : (L.take n).map liftK ++ List.replicate (n - n) K0 = L.map liftK := by rw [HNL.out, List.take_length]; simp
              rw [← e]; exact hO
            refine ⟨j + 1, _, by omega, by go_num, by rw [List.length_set]; exact hsl, OwnG.but hOh hkp (fun e => by injection e with e; exact hbq e), hS, Lib.hid ⟨fun i x M hi h1 h2 => ?_, fun i M hi h2 => ?_⟩⟩
            · by_cases e : i = j
              · subst e
                rw [List.getElem?_set_self (by omega)] at h1
                injection h1 with h1
                rw [HLJ.out] at h2
                injection h2 with h2
                subst h1 h2
                exact hend
              · rw [List.getElem?_set_ne (fun x => e x.symm)] at h1
                obtain ⟨hk5, hx5⟩ := HR5.out.1 i x M (by omega) h1 h2
                exact OwnG.but hk5 hkp hx5
            · by_cases e : i = j
              · subst e
                rw [HLJ.out] at h2
                injection h2 with h2
                subst h2
                intro K hK
                obtain ⟨t, ht, hg⟩ := List.getElem_of_mem hK
                exact HU.out t K (by rw [HNL.out]; exact ht) (by rw [List.getElem?_eq_getElem ht, hg])
              · exact HR5.out.2 i M (by omega) h2
          case measure => simp [intOf]; omega
    · obtain rfl : N = j := by omega
      have hall : allIn LL := fun L hL => by
        obtain ⟨i, hi, hg⟩ := List.getElem_of_mem hL
        exact HK.out.2 i L (by rw [HN.out]; exact hi) (by rw [List.getElem?_eq_getElem hi, hg])
      have HALL := Lib.hid hall
      clear hall
      go_wp2_with fail
      refine bodyPost_ret (v := .tuple #[.slice (some ⟨hb0, 0, none⟩) N N, .int .i64 0]) (by simp only [results, Try.results42]; go_simp) rfl ?_
      refine .inl ⟨HALL.out, _, w.heap.size, rfl, Nat.le_refl _, ⟨hs, by rw [List.length_map, hsl]; exact HN.out, hO, fun i x M h1 h2 => ?_⟩, hS⟩
      rw [List.getElem?_map] at h2
      cases hg : LL[i]? with
      | none => rw [hg] at h2; cases h2
      | some L =>
        rw [hg] at h2
        simp only [Option.map_some, Option.some.injEq] at h2
        subst h2
        have hi : i < LL.length := by
          rcases Nat.lt_or_ge i LL.length with h | h
          · exact h
          · rw [List.getElem?_eq_none h] at hg; cases hg
        exact HK.out.1 i x L (by rw [HN.out]; exact hi) h1 hg
end Go.Proofs.Ytcjjcjpkmjbfkaa

/-
  The reference's 'Great' and 'Copy' of outlines, walked.
-/
namespace Go.Proofs.Ytcjjcjpkmjbfkaa
open Go.RowKit Go.ChangeShapes Go.WideShapes Go.Deep
set_option linter.unusedVariables false

def sumL (LL : List (List Kt)) : Nat := (LL.map List.length).sum
theorem sum_take {LL : List (List Kt)} {j : Nat} {L : List Kt} (hj : LL[j]? = some L) : sumL (LL.take (j + 1)) = sumL (LL.take j) + L.length := by
  have hjl : j < LL.length := by
    rcases Nat.lt_or_ge j LL.length with h | h
    · exact h
    · rw [List.getElem?_eq_none h] at hj; cases hj
  have e : LL[j] = L := by rw [List.getElem?_eq_getElem hjl] at hj; injection hj
  unfold sumL
  rw [List.take_succ_eq_append_getElem hjl, List.map_append, List.sum_append, e]
  simp
/-- What isn't great. -/
def NotGreat (LL : List (List Kt)) : Prop := LL.length ≤ 600 ∧ (∀ L, L ∈ LL → L.length ≤ 5000) ∧ sumL LL ≤ 9000
def GreatOut (w : World) (LL : List (List Kt)) (e : Ending) (w' : World) : Prop := ∃ g : Bool, e = .returned (.bool g) ∧ (g = false → NotGreat LL) ∧ Since w w'
set_option maxRecDepth 100000 in
set_option maxHeartbeats 8000000 in
theorem rf_great (A : Option Addr) (c : Nat) (LL : List (List Kt)) (w : World) (h : RdOL w w.heap.size A LL) (hn : LL.length ≤ maxLen) (hm : ∀ L, L ∈ LL → L.length ≤ maxLen) :
    Calls Try.prog 16 #[.slice A LL.length c] w (GreatOut w LL) := by
  obtain ⟨N, hN⟩ : ∃ N, N = LL.length := ⟨_, rfl⟩
  rw [← hN] at hn ⊢
  have HN := Lib.hid hN
  have HM := Lib.hid hm
  clear hN hm
  have hn' : (N : Int) ≤ 9223372036854775807 := by simp only [maxLen] at hn; omega
  by_cases h6 : N ≤ 600
  · have d1 : decide ((600 : Int) < (N : Int)) = false := by simp; omega
    have d2 : ¬ (600 : Int) < (N : Int) := by omega
    go_enter Try.func16, Try.ntmps16
    go_wp2_with fail
    go_loopw [3, 11] (fun v y wr => ∃ (j : Nat), j ≤ N ∧ y = .int .i64 (j : Int) ∧ v = .int .i64 ((sumL (LL.take j) : Nat) : Int) ∧ sumL (LL.take j) ≤ 5000 * j ∧ Hid (∀ i L, i < j → LL[i]? = some L → L.length ≤ 5000) ∧ Since w wr) (fun _ y _ => N - (intOf y).toNat)
    case atStart => exact ⟨0, by omega, rfl, rfl, by simp [sumL], Lib.hid (fun i L hi => absurd hi (by omega)), Since.refl _⟩
    case round =>
      obtain ⟨j, hj, rfl, rfl, hs, HL, hS⟩ := hrel
      by_cases hjn : j < N
      · have hjn' : (j : Int) < N := by omega
        have hL : LL[j]? = some (LL[j]'(by rw [← HN.out]; exact hjn)) := List.getElem?_eq_getElem _
        have hml := HM.out _ (List.mem_of_getElem? hL)
        generalize (LL[j]'(by rw [← HN.out]; exact hjn)) = L at *
        obtain ⟨b, o, A', c', rfl, hb, hcell, hK⟩ := h.row hL
        have hst := sum_take hL
        have HLJ := Lib.hid hL
        have HST := Lib.hid hst
        have c1 := (hS.1 _ _ hb).trans hcell
        have hbw := hS.2.2.1 _ hb
        have hlm : (L.length : Int) ≤ 9223372036854775807 := by simp only [maxLen] at hml; omega
        generalize hll : L.length = n at *
        generalize sumL (LL.take j) = S at *
        have u1 : IntKind.i64.wrap ((S : Int) + (n : Int)) = (S : Int) + (n : Int) ∨ 5000 < n := by
          by_cases h5 : 5000 < n
          · exact .inr h5
          · exact .inl (IntWalk.i64_in _ (by omega))
        clear hL hst h hcell hK
        by_cases h5 : n ≤ 5000
        · have d3 : decide ((5000 : Int) < (n : Int)) = false := by simp; omega
          have d4 : ¬ (5000 : Int) < (n : Int) := by omega
          have u1 : IntKind.i64.wrap ((S : Int) + (n : Int)) = (S : Int) + (n : Int) := IntWalk.i64_in _ (by omega)
          go_wp2_with fail
          go_roundw
          case rel =>
            refine ⟨j + 1, by omega, by go_num, by rw [HST.out]; go_num, by rw [HST.out]; omega, Lib.hid (fun i M hi hM => ?_), hS⟩
            by_cases e : i = j
            · subst e
              rw [HLJ.out] at hM
              injection hM with hM
              subst hM
              omega
            · exact HL.out i M (by omega) hM
          case measure => simp [intOf]; omega
        · have d3 : decide ((5000 : Int) < (n : Int)) = true := by simp; omega
          have d4 : (5000 : Int) < (n : Int) := by omega
          go_wp2_with fail
          go_ret
          exact ⟨true, rfl, by simp, hS⟩
      · obtain rfl : N = j := by omega
        have e : LL.take N = LL := by rw [HN.out]; exact List.take_length
        rw [e] at hs ⊢
        have HE : Hid (∀ L, L ∈ LL → L.length ≤ 5000) := Lib.hid (fun L hL => by
          obtain ⟨i, hi, hg⟩ := List.getElem_of_mem hL
          exact HL.out i L (by rw [HN.out]; exact hi) (by rw [List.getElem?_eq_getElem hi, hg]))
        obtain ⟨S, hS0⟩ : ∃ S, S = sumL LL := ⟨_, rfl⟩
        rw [← hS0] at hs ⊢
        have HS0 := Lib.hid hS0
        clear hS0 e
        by_cases h9 : S ≤ 9000
        · have d3 : decide ((9000 : Int) < (S : Int)) = false := by simp; omega
          have d4 : ¬ (9000 : Int) < (S : Int) := by omega
          go_wp2_with fail
          go_ret
          exact ⟨false, rfl, fun _ => ⟨by rw [← HN.out]; exact h6, HE.out, by rw [← HS0.out]; exact h9⟩, hS⟩
        · have d3 : decide ((9000 : Int) < (S : Int)) = true := by simp; omega
          have d4 : (9000 : Int) < (S : Int) := by omega
          go_wp2_with fail
          go_ret
          exact ⟨true, rfl, by simp, hS⟩
  · have d1 : decide ((600 : Int) < (N : Int)) = true := by simp; omega
    have d2 : (600 : Int) < (N : Int) := by omega
    go_enter Try.func16, Try.ntmps16
    go_wp2_with fail
    go_ret
    exact ⟨true, rfl, by simp, by (repeat (first | with_reducible (exact Since.refl _) | with_reducible assumption | with_reducible (refine Since.drew ?_) | with_reducible (refine Since.drewN ?_ _) | with_reducible (refine Since.alloc ?_ _) | (with_reducible (refine Since.setCell ?_ ?_ _); rotate_left; focus (first | (simp; done) | (simp; omega) | omega)) | (with_reducible (refine Since.trans ?_ (by with_reducible assumption)))))⟩
end Go.Proofs.Ytcjjcjpkmjbfkaa
