/-
  Layer 13: the numbers of halves, hulls and middles.
-/
import Derived.Test.YtbbbojhncfdbdaaQlA
import Derived.Test.YtbbbojhncfdbdaaGaN
namespace Go.Proofs.Ytbbbojhncfdbdaa
open Go.RowKit
set_option linter.unusedVariables false

section
variable (A C B i j l : Int)
theorem curve_left : curveI (A + A + A + A) (A + A + C + C) (A + C + C + B) j i = curveI A C B (j + j + i) i := by
  unfold curveI
  simp only [Int.two_mul, Int.add_mul, Int.mul_add]
  simp only [Int.mul_comm, Int.mul_left_comm]
  omega
theorem curve_right : curveI (A + C + C + B) (C + C + B + B) (B + B + B + B) j i = curveI A C B j (i + i + j) := by
  unfold curveI
  simp only [Int.two_mul, Int.add_mul, Int.mul_add]
  simp only [Int.mul_comm, Int.mul_left_comm]
  omega
theorem line_left : lineI (A + A + A + A) (A + A + B + B) j i (i + j) = lineI A B (j + j + i) i (i + j + (i + j)) := by
  unfold lineI
  simp only [Int.add_mul, Int.mul_add]
  simp only [Int.mul_comm, Int.mul_left_comm]
  omega
theorem line_right : lineI (A + A + B + B) (B + B + B + B) j i (i + j) = lineI A B j (i + i + j) (i + j + (i + j)) := by
  unfold lineI
  simp only [Int.add_mul, Int.mul_add]
  simp only [Int.mul_comm, Int.mul_left_comm]
  omega
theorem curve_same (h : A = l) (h' : C = l) (h'' : B = l) : curveI A C B j i = (i + j) * (i + j) * l := by
  subst h h' h''
  unfold curveI
  simp only [Int.two_mul, Int.add_mul, Int.mul_add]
  simp only [Int.mul_comm, Int.mul_left_comm]
  omega
theorem line_same (h : A = l) (h'' : B = l) : lineI A B j i (i + j) = (i + j) * (i + j) * l := by
  subst h h''
  unfold lineI
  simp only [Int.add_mul, Int.mul_add]
  simp only [Int.mul_comm, Int.mul_left_comm]
  omega
theorem curve_back : curveI B C A i j = curveI A C B j i := by
  unfold curveI
  simp only [Int.two_mul, Int.add_mul]
  simp only [Int.mul_comm, Int.mul_left_comm]
  omega
theorem line_back (p : Int) : lineI B A i j p = lineI A B j i p := by unfold lineI; rw [Int.add_comm]
theorem curve_mid : curveI A C B (j + j + 1) (i + i + 1) - 2 * curveI A C B (j + 1) i - 2 * curveI A C B j (i + 1) = -(A - 2 * C + B) := by
  unfold curveI
  simp only [Int.two_mul, Int.add_mul, Int.mul_add, Int.mul_one]
  simp only [Int.mul_comm, Int.mul_left_comm]
  omega
theorem line_mid : lineI A B (j + j + 1) (i + i + 1) (i + j + 1 + (i + j + 1)) - 2 * lineI A B (j + 1) i (i + j + 1) - 2 * lineI A B j (i + 1) (i + j + 1) = 0 := by
  unfold lineI
  simp only [Int.two_mul, Int.add_mul, Int.mul_add, Int.mul_one]
  simp only [Int.mul_comm, Int.mul_left_comm]
  omega
end
theorem curve_mono {A C B A' C' B' i j : Int} (hA : A ≤ A') (hC : C ≤ C') (hB : B ≤ B') (hi : 0 ≤ i) (hj : 0 ≤ j) : curveI A C B j i ≤ curveI A' C' B' j i := by
  have h1 : A * j * j ≤ A' * j * j := Int.mul_le_mul_of_nonneg_right (Int.mul_le_mul_of_nonneg_right hA hj) hj
  have h2 : 2 * C * i * j ≤ 2 * C' * i * j := Int.mul_le_mul_of_nonneg_right (Int.mul_le_mul_of_nonneg_right (by omega) hi) hj
  have h3 : B * i * i ≤ B' * i * i := Int.mul_le_mul_of_nonneg_right (Int.mul_le_mul_of_nonneg_right hB hi) hi
  unfold curveI
  omega
theorem line_mono {A B A' B' i j p : Int} (hA : A ≤ A') (hB : B ≤ B') (hi : 0 ≤ i) (hj : 0 ≤ j) (hp : 0 ≤ p) : lineI A B j i p ≤ lineI A' B' j i p := by
  have h1 : A * j ≤ A' * j := Int.mul_le_mul_of_nonneg_right hA hj
  have h3 : B * i ≤ B' * i := Int.mul_le_mul_of_nonneg_right hB hi
  exact Int.mul_le_mul_of_nonneg_right (by omega) hp
theorem lo3_le (k : Bool) (A B C : Int) : lo3 k A B C ≤ A ∧ lo3 k A B C ≤ B ∧ (k = true → lo3 k A B C ≤ C) := by
  unfold lo3 mi
  cases k <;> simp <;> (repeat' split) <;> omega
theorem hi3_ge (k : Bool) (A B C : Int) : A ≤ hi3 k A B C ∧ B ≤ hi3 k A B C ∧ (k = true → C ≤ hi3 k A B C) := by
  unfold hi3 ma
  cases k <;> simp <;> (repeat' split) <;> omega
/-- A share's point lies between. -/
theorem at_hull (s : Sg) (A C B k n : Int) (h : argOK k n = true) : 2 ^ (2 * n).toNat * lo3 s.k A B C ≤ atI s A C B k n ∧ atI s A C B k n ≤ 2 ^ (2 * n).toNat * hi3 s.k A B C := by
  obtain ⟨h1, h2, h3, h4⟩ := arg_parts h
  obtain ⟨l1, l2, l3⟩ := lo3_le s.k A B C
  obtain ⟨u1, u2, u3⟩ := hi3_ge s.k A B C
  have hq : (2 : Int) ^ (2 * n).toNat = 2 ^ n.toNat * 2 ^ n.toNat := by
    rw [show (2 * n).toNat = n.toNat + n.toNat by omega, Int.pow_add]
  rw [hq]
  unfold atI
  generalize (2 : Int) ^ n.toNat = p at *
  obtain ⟨j, hj⟩ : ∃ j : Int, j = p - k := ⟨_, rfl⟩
  have hp : p = k + j := by omega
  rw [← hj]
  have hj0 : 0 ≤ j := by omega
  generalize lo3 s.k A B C = L at *
  generalize hi3 s.k A B C = U at *
  subst hp
  cases hk : s.k with
  | false =>
    simp only [Bool.false_eq_true, if_false]
    rw [← line_same L L k j L rfl rfl, ← line_same U U k j U rfl rfl]
    exact ⟨line_mono l1 l2 h3 hj0 (by omega), line_mono u1 u2 h3 hj0 (by omega)⟩
  | true =>
    simp only [if_true]
    rw [← curve_same L L L k j L rfl rfl rfl, ← curve_same U U U k j U rfl rfl rfl]
    exact ⟨curve_mono l1 (l3 hk) l2 h3 hj0, curve_mono u1 (u3 hk) u2 h3 hj0⟩
theorem rnd_hull {v n L U : Int} (h0 : 0 ≤ n) (h10 : n ≤ 10) (h1 : 2 ^ (2 * n).toNat * L ≤ v) (h2 : v ≤ 2 ^ (2 * n).toNat * U) : L ≤ rndI v n ∧ rndI v n ≤ U := by
  have hq := four_pow h0 h10
  unfold rndI
  generalize (2 : Int) ^ (2 * n).toNat = q at *
  constructor
  · apply Int.le_ediv_of_mul_le (by omega)
    rw [Int.mul_comm]
    omega
  · have : (v + q / 2) / q < U + 1 := by
      apply Int.ediv_lt_of_lt_mul (by omega)
      rw [Int.add_mul, Int.one_mul, Int.mul_comm U]
      omega
    omega
/-- The ends. -/
theorem at_zero (s : Sg) (A C B n : Int) (h0 : 0 ≤ n) : atI s A C B 0 n = 2 ^ (2 * n).toNat * A := by
  have hq : (2 : Int) ^ (2 * n).toNat = 2 ^ n.toNat * 2 ^ n.toNat := by
    rw [show (2 * n).toNat = n.toNat + n.toNat by omega, Int.pow_add]
  rw [hq]
  unfold atI lineI curveI
  generalize (2 : Int) ^ n.toNat = p
  cases s.k <;> simp [Int.mul_comm, Int.mul_left_comm]
theorem at_one (s : Sg) (A C B n : Int) (h0 : 0 ≤ n) : atI s A C B (2 ^ n.toNat) n = 2 ^ (2 * n).toNat * B := by
  have hq : (2 : Int) ^ (2 * n).toNat = 2 ^ n.toNat * 2 ^ n.toNat := by
    rw [show (2 * n).toNat = n.toNat + n.toNat by omega, Int.pow_add]
  rw [hq]
  unfold atI lineI curveI
  generalize (2 : Int) ^ n.toNat = p
  cases s.k <;> simp [Int.mul_comm, Int.mul_left_comm]
theorem at_back (s t : Sg) (A C B k n : Int) (hk : t.k = s.k) : atI t B C A (2 ^ n.toNat - k) n = atI s A C B k n := by
  unfold atI
  rw [hk]
  generalize (2 : Int) ^ n.toNat = p
  rw [show p - (p - k) = k by omega]
  cases s.k with
  | false => simp only [Bool.false_eq_true, if_false]; exact line_back A B k (p - k) p
  | true => simp only [if_true]; exact curve_back A C B k (p - k)
/-- Halves. -/
theorem at_left (s t : Sg) (A C B k n : Int) (h : argOK k n = true) (ht : t.k = s.k) :
    atI t (A + A + A + A) (A + A + C + C) (if s.k then A + C + C + B else A + A + B + B) k n = atI s A C B k (n + 1) := by
  obtain ⟨h1, h2, h3, h4⟩ := arg_parts h
  unfold atI
  rw [ht, show (n + 1).toNat = n.toNat + 1 by omega, Int.pow_succ]
  generalize (2 : Int) ^ n.toNat = p at *
  obtain ⟨j, hj⟩ : ∃ j : Int, j = p - k := ⟨_, rfl⟩
  have hp : p = k + j := by omega
  rw [← hj, show p * 2 - k = j + j + k by omega]
  cases s.k with
  | false => simp only [Bool.false_eq_true, if_false]; rw [show p * 2 = k + j + (k + j) by omega, hp]; exact line_left A B k j
  | true => simp only [if_true]; exact curve_left A C B k j
theorem at_right (s t : Sg) (A C B k n : Int) (h : argOK k n = true) (ht : t.k = s.k) :
    atI t (if s.k then A + C + C + B else A + A + B + B) (C + C + B + B) (B + B + B + B) k n = atI s A C B (k + 2 ^ n.toNat) (n + 1) := by
  obtain ⟨h1, h2, h3, h4⟩ := arg_parts h
  unfold atI
  rw [ht, show (n + 1).toNat = n.toNat + 1 by omega, Int.pow_succ]
  generalize (2 : Int) ^ n.toNat = p at *
  obtain ⟨j, hj⟩ : ∃ j : Int, j = p - k := ⟨_, rfl⟩
  have hp : p = k + j := by omega
  rw [← hj, show p * 2 - (k + p) = j by omega, show k + p = k + k + j by omega]
  cases s.k with
  | false => simp only [Bool.false_eq_true, if_false]; rw [show p * 2 = k + j + (k + j) by omega, hp]; exact line_right A B k j
  | true => simp only [if_true]; exact curve_right A C B k j
/-- A step's middle. -/
theorem at_mid (s : Sg) (A C B k n : Int) (h0 : 0 ≤ n) (h1 : 0 ≤ k) (h2 : k + 1 ≤ 2 ^ n.toNat) :
    atI s A C B (2 * k + 1) (n + 1) - 2 * atI s A C B k n - 2 * atI s A C B (k + 1) n = if s.k then -(A - 2 * C + B) else 0 := by
  unfold atI
  rw [show (n + 1).toNat = n.toNat + 1 by omega, Int.pow_succ]
  generalize (2 : Int) ^ n.toNat = p at *
  obtain ⟨j, hj⟩ : ∃ j : Int, j = p - (k + 1) := ⟨_, rfl⟩
  have hp : p = k + j + 1 := by omega
  rw [← hj, show p * 2 - (2 * k + 1) = j + j + 1 by omega, show p - k = j + 1 by omega, show 2 * k + 1 = k + k + 1 by omega]
  cases s.k with
  | false => simp only [Bool.false_eq_true, if_false]; rw [show p * 2 = k + j + 1 + (k + j + 1) by omega, hp]; exact line_mid A B k j
  | true => simp only [if_true]; exact curve_mid A C B k j
end Go.Proofs.Ytbbbojhncfdbdaa
