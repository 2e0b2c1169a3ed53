/-
  The document's numbers of eight digits to the base 65536, as plain arithmetic.
-/
import Derived.Test.YtckochcocflleaaWideMath
namespace Go.Proofs.Ytckochcocflleaa
open Go.RowKit

/-- What a digit counts. -/
def B (i : Nat) : Int := 65536 ^ i
/-- A digit of a number. -/
def dg (n : Int) (i : Nat) : Int := n / B i % 65536
theorem B_pos (i : Nat) : 0 < B i := Int.pow_pos (by omega)
theorem B_succ (i : Nat) : B (i + 1) = B i * 65536 := Int.pow_succ 65536 i
theorem dg_bd (n : Int) (i : Nat) : 0 ≤ dg n i ∧ dg n i < 65536 := by unfold dg; omega
/-- The digits of a number, as the document has it. -/
@[reducible] def D (n : Int) : Value := .agg #[.int .u32 (dg n 0), .int .u32 (dg n 1), .int .u32 (dg n 2), .int .u32 (dg n 3), .int .u32 (dg n 4), .int .u32 (dg n 5), .int .u32 (dg n 6), .int .u32 (dg n 7)]
/-- What is carried to digit i. -/
def car (a b : Int) (i : Nat) : Int := (a % B i + b % B i) / B i
theorem low_bd (a : Int) (i : Nat) : 0 ≤ a % B i ∧ a % B i < B i := ⟨Int.emod_nonneg _ (Int.ne_of_gt (B_pos i)), Int.emod_lt_of_pos _ (B_pos i)⟩
theorem car_bd (a b : Int) (i : Nat) : 0 ≤ car a b i ∧ car a b i ≤ 1 := by
  have h1 := low_bd a i; have h2 := low_bd b i; have h3 := B_pos i
  unfold car
  constructor
  · exact Int.ediv_nonneg (by omega) (by omega)
  · have : (a % B i + b % B i) / B i < 2 := Int.ediv_lt_of_lt_mul h3 (by omega)
    omega
theorem low_succ (a : Int) (i : Nat) : a % B (i + 1) = dg a i * B i + a % B i := by
  unfold dg
  rw [B_succ]
  have h1 := Int.mul_ediv_add_emod a (B i)
  have h2 := low_bd a i
  have hb := B_pos i
  have key : a % (B i * 65536) = B i * (a / B i % 65536) + a % B i := by
    have e1 := Int.mul_ediv_add_emod (a / B i) 65536
    have e2 : a = (B i * (a / B i % 65536) + a % B i) + (B i * 65536) * (a / B i / 65536) := by
      have : B i * (a / B i) = B i * (65536 * (a / B i / 65536) + a / B i % 65536) := by rw [e1]
      rw [Int.mul_add, ← Int.mul_assoc] at this
      omega
    have h3 : 0 ≤ a / B i % 65536 := by omega
    have h4 : B i * (a / B i % 65536) ≤ B i * 65535 := Int.mul_le_mul_of_nonneg_left (by omega) (by omega)
    have h5 : 0 ≤ B i * (a / B i % 65536) := Int.mul_nonneg (by omega) h3
    conv => lhs; rw [e2]
    rw [Int.add_mul_emod_self_left]
    exact Int.emod_eq_of_lt (by omega) (by omega)
  rw [key, Int.mul_comm]
theorem sum_step (a b : Int) (i : Nat) : a % B i + b % B i = (a + b) % B i + B i * car a b i := by
  have h1 := Int.mul_ediv_add_emod (a % B i + b % B i) (B i)
  rw [← Int.add_emod] at h1
  unfold car
  omega
theorem car_zero (a b : Int) : car a b 0 = 0 := by
  have h1 := car_bd a b 0
  have h := sum_step a b 0
  have e : B 0 = 1 := rfl
  rw [e] at h; omega
theorem dg_add (a b : Int) (i : Nat) : dg (a + b) i = (dg a i + dg b i + car a b i) % 65536 ∧ car a b (i + 1) = (dg a i + dg b i + car a b i) / 65536 := by
  have s0 := sum_step a b i
  have s1 := sum_step a b (i + 1)
  rw [low_succ a, low_succ b, low_succ (a + b), B_succ] at s1
  have b1 := dg_bd a i; have b2 := dg_bd b i; have b3 := dg_bd (a + b) i; have c0 := car_bd a b i; have c1 := car_bd a b (i + 1)
  have hB := B_pos i
  have key : B i * (dg a i + dg b i + car a b i) = B i * (dg (a + b) i + 65536 * car a b (i + 1)) := by
    have e1 : B i * (dg a i + dg b i + car a b i) = dg a i * B i + dg b i * B i + B i * car a b i := by rw [Int.mul_add, Int.mul_add, Int.mul_comm (B i) (dg a i), Int.mul_comm (B i) (dg b i)]
    have e2 : B i * (dg (a + b) i + 65536 * car a b (i + 1)) = dg (a + b) i * B i + B i * 65536 * car a b (i + 1) := by rw [Int.mul_add, Int.mul_comm (B i) (dg (a + b) i), Int.mul_assoc]
    rw [e1, e2]; omega
  have := Int.eq_of_mul_eq_mul_left (by omega) key
  omega
/-- Numbers that are alike up to 2^128 have the same digits. -/
theorem dg_mod (n : Int) (i : Nat) (hi : i < 8) : dg (n % 340282366920938463463374607431768211456) i = dg n i := by
  have h : i = 0 ∨ i = 1 ∨ i = 2 ∨ i = 3 ∨ i = 4 ∨ i = 5 ∨ i = 6 ∨ i = 7 := by omega
  unfold dg B
  rcases h with rfl | rfl | rfl | rfl | rfl | rfl | rfl | rfl <;> simp only [Int.reducePow] <;> omega
theorem D_mod (n : Int) : D (n % 340282366920938463463374607431768211456) = D n := by
  unfold D; simp only [dg_mod _ _ (show 0 < 8 by omega), dg_mod _ _ (show 1 < 8 by omega), dg_mod _ _ (show 2 < 8 by omega), dg_mod _ _ (show 3 < 8 by omega), dg_mod _ _ (show 4 < 8 by omega), dg_mod _ _ (show 5 < 8 by omega), dg_mod _ _ (show 6 < 8 by omega), dg_mod _ _ (show 7 < 8 by omega)]
end Go.Proofs.Ytckochcocflleaa
