/-
  The arithmetic of a division of two words by one, half a word at a time: no Go in sight.
-/
import Derived.Test.YtckochcocflleaaKit
namespace Go.Proofs.Ytckochcocflleaa
namespace Half
/-- The digit that is sought. -/
def digit (u d y1 y0 : Int) : Int := (u * 4294967296 + d) / (y1 * 4294967296 + y0)
def rest (u d y1 y0 : Int) : Int := (u * 4294967296 + d) % (y1 * 4294967296 + y0)

/-- What is known all along: the divisor's halves, and what is left. -/
structure Fit (u d y1 y0 : Int) : Prop where
  d0 : 0 ≤ d
  d1 : d < 4294967296
  a0 : 2147483648 ≤ y1
  a1 : y1 < 4294967296
  b0 : 0 ≤ y0
  b1 : y0 < 4294967296
  u0 : 0 ≤ u
  u1 : u < y1 * 4294967296 + y0

section
variable {u d y1 y0 Q R : Int}
theorem mulY (Q y1 y0 : Int) : Q * (y1 * 4294967296 + y0) = Q * y1 * 4294967296 + Q * y0 := by rw [Int.mul_add, Int.mul_assoc]

theorem digit_nonneg (h : Fit u d y1 y0) : 0 ≤ digit u d y1 y0 := by
  obtain ⟨d0, d1, a0, a1, b0, b1, u0, u1⟩ := h
  exact Int.ediv_nonneg (by omega) (by omega)
theorem digit_lt (h : Fit u d y1 y0) : digit u d y1 y0 < 4294967296 := by
  obtain ⟨d0, d1, a0, a1, b0, b1, u0, u1⟩ := h
  unfold digit
  exact Int.ediv_lt_of_lt_mul (by omega) (by omega)
/-- A guess whose product fits is no greater than the digit. -/
theorem guess_le (h : Fit u d y1 y0) (hQ : Q * y1 + R = u) (ht : Q * y0 ≤ 4294967296 * R + d) : Q ≤ digit u d y1 y0 := by
  obtain ⟨d0, d1, a0, a1, b0, b1, u0, u1⟩ := h
  unfold digit
  refine Int.le_ediv_of_mul_le (by omega) ?_
  rw [mulY]
  omega
theorem le_guess (h : Fit u d y1 y0) (hQ : Q * y1 + R = u) (hx : 4294967296 ≤ Q ∨ 4294967296 * R + d < Q * y0) : digit u d y1 y0 ≠ Q := by
  intro e
  have hl := digit_lt h
  obtain ⟨d0, d1, a0, a1, b0, b1, u0, u1⟩ := h
  rcases hx with hx | hx
  · omega
  · have : digit u d y1 y0 * (y1 * 4294967296 + y0) ≤ u * 4294967296 + d := Int.ediv_mul_le _ (by omega)
    rw [e, mulY] at this
    omega
/-- The first guess. -/
theorem first (h : Fit u d y1 y0) : digit u d y1 y0 ≤ u / y1 := by
  obtain ⟨d0, d1, a0, a1, b0, b1, u0, u1⟩ := h
  refine Int.le_ediv_of_mul_le (by omega) ?_
  have h1 : digit u d y1 y0 * (y1 * 4294967296 + y0) ≤ u * 4294967296 + d := Int.ediv_mul_le _ (by omega)
  have h0 : 0 ≤ digit u d y1 y0 := Int.ediv_nonneg (by omega) (by omega)
  have h2 : 0 ≤ digit u d y1 y0 * y0 := Int.mul_nonneg h0 b0
  rw [mulY] at h1
  omega
theorem guess_bd (h : Fit u d y1 y0) (hQ : Q * y1 + R = u) (hR : 0 ≤ R) : Q ≤ 4294967297 := by
  obtain ⟨d0, d1, a0, a1, b0, b1, u0, u1⟩ := h
  have : Q * y1 < 4294967298 * y1 := by omega
  have := Int.lt_of_mul_lt_mul_right this (by omega)
  omega
theorem broken (h : Fit u d y1 y0) (hQ : Q * y1 + R = u) (hQ0 : 0 ≤ Q) (hd : digit u d y1 y0 ≤ Q) (hR : 4294967296 ≤ R) : Q = digit u d y1 y0 := by
  refine Int.le_antisymm (guess_le h hQ ?_) hd
  obtain ⟨d0, d1, a0, a1, b0, b1, u0, u1⟩ := h
  have h1 : Q * y1 < 4294967296 * y1 := by omega
  have h2 := Int.lt_of_mul_lt_mul_right h1 (by omega)
  have h3 : Q * y0 ≤ 4294967295 * 4294967295 := Int.mul_le_mul (by omega) (by omega) b0 (by omega)
  omega
theorem rest_eq (u d y1 y0 : Int) : u * 4294967296 + d - digit u d y1 y0 * (y1 * 4294967296 + y0) = rest u d y1 y0 := by
  unfold digit rest
  have := Int.mul_ediv_add_emod (u * 4294967296 + d) (y1 * 4294967296 + y0)
  rw [Int.mul_comm] at this
  omega
theorem rest_bd (h : Fit u d y1 y0) : 0 ≤ rest u d y1 y0 ∧ rest u d y1 y0 < y1 * 4294967296 + y0 := by
  obtain ⟨d0, d1, a0, a1, b0, b1, u0, u1⟩ := h
  exact ⟨Int.emod_nonneg _ (by omega), Int.emod_lt_of_pos _ (by omega)⟩
/-- The loop's relation. -/
def Rel (u d y1 y0 Q R : Int) : Prop := Q * y1 + R = u ∧ 0 ≤ Q ∧ digit u d y1 y0 ≤ Q ∧ 0 ≤ R ∧ R < 4294967296
theorem Rel.start (h : Fit u d y1 y0) : Rel u d y1 y0 (u / y1) (u - u / y1 * y1) := by
  have hf := first h
  have hn := digit_nonneg h
  obtain ⟨d0, d1, a0, a1, b0, b1, u0, u1⟩ := h
  have e := Int.mul_ediv_add_emod u y1
  have b := Int.emod_lt_of_pos u (show 0 < y1 by omega)
  have c := Int.emod_nonneg u (show y1 ≠ 0 by omega)
  rw [Int.mul_comm] at e
  exact ⟨by omega, by omega, hf, by omega, by omega⟩
theorem Rel.again (h : Fit u d y1 y0) (r : Rel u d y1 y0 Q R) (hx : 4294967296 ≤ Q ∨ 4294967296 * R + d < Q * y0) : (Q - 1) * y1 + (R + y1) = u ∧ 0 ≤ Q - 1 ∧ digit u d y1 y0 ≤ Q - 1 := by
  obtain ⟨r1, r2, r3, r4, r5⟩ := r
  have := le_guess h r1 hx
  have := digit_nonneg h
  refine ⟨?_, by omega, by omega⟩
  rw [Int.sub_mul]; omega
theorem Rel.done (h : Fit u d y1 y0) (r : Rel u d y1 y0 Q R) (hx : Q * y0 ≤ 4294967296 * R + d) : Q = digit u d y1 y0 :=
  Int.le_antisymm (guess_le h r.1 hx) r.2.2.1
theorem Rel.bounds (h : Fit u d y1 y0) (r : Rel u d y1 y0 Q R) : Q ≤ 4294967297 ∧ 0 ≤ Q * y0 ∧ Q * y0 < 18446744073709551616 := by
  have hb := guess_bd h r.1 r.2.2.2.1
  obtain ⟨d0, d1, a0, a1, b0, b1, u0, u1⟩ := h
  have h3 : Q * y0 ≤ 4294967297 * 4294967295 := Int.mul_le_mul (by omega) (by omega) b0 (by omega)
  exact ⟨hb, Int.mul_nonneg r.2.1 b0, by omega⟩
end

/-- Two halves of a quotient, and what is left, are those of the whole. -/
theorem whole {u d1 d0 y1 y0 : Int} (h1 : Fit u d1 y1 y0) (h2 : Fit (rest u d1 y1 y0) d0 y1 y0) :
    digit u d1 y1 y0 * 4294967296 + digit (rest u d1 y1 y0) d0 y1 y0 = (u * 18446744073709551616 + d1 * 4294967296 + d0) / (y1 * 4294967296 + y0) ∧
    rest (rest u d1 y1 y0) d0 y1 y0 = (u * 18446744073709551616 + d1 * 4294967296 + d0) % (y1 * 4294967296 + y0) := by
  have e1 := rest_eq u d1 y1 y0
  have e2 := rest_eq (rest u d1 y1 y0) d0 y1 y0
  have b2 := rest_bd h2
  have a0 := h1.a0; have b0 := h1.b0
  generalize rest (rest u d1 y1 y0) d0 y1 y0 = r at *
  generalize rest u d1 y1 y0 = v at *
  generalize digit u d1 y1 y0 = p at *
  generalize digit v d0 y1 y0 = q at *
  have hy : 0 < y1 * 4294967296 + y0 := by omega
  generalize y1 * 4294967296 + y0 = y at *
  have key : u * 18446744073709551616 + d1 * 4294967296 + d0 = r + (p * 4294967296 + q) * y := by
    rw [Int.add_mul, Int.mul_right_comm]
    omega
  rw [key]
  constructor
  · rw [Int.add_mul_ediv_right _ _ (by omega), Int.ediv_eq_zero_of_lt b2.1 b2.2]; omega
  · rw [Int.add_mul_emod_self_right, Int.emod_eq_of_lt b2.1 b2.2]
end Half
end Go.Proofs.Ytckochcocflleaa
