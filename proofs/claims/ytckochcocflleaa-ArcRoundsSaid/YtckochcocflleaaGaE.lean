/-
  Layer 10: 'Quarter', walked; the reference's small functions, walked.
-/
import Derived.Test.YtckochcocflleaaGaD
namespace Go.Proofs.Ytckochcocflleaa
open Go.RowKit
set_option linter.unusedVariables false

/-- A point turned by quarters. -/
def qu (x y : Int) : Nat → Int × Int
  | 0 => (x, y)
  | k + 1 => (-(qu x y k).2, (qu x y k).1)
theorem qu_near {x y : Int} {B : Int} (hx : -B ≤ x ∧ x ≤ B) (hy : -B ≤ y ∧ y ≤ B) : ∀ k, (-B ≤ (qu x y k).1 ∧ (qu x y k).1 ≤ B) ∧ (-B ≤ (qu x y k).2 ∧ (qu x y k).2 ≤ B)
  | 0 => ⟨hx, hy⟩
  | k + 1 => by
    have h := qu_near hx hy k
    simp only [qu]
    omega
theorem and_three (n : Int) : bits .and .i64 n 3 = ((n % 4).toNat : Int) := by
  show IntKind.i64.wrap ((BitVec.ofInt 64 n &&& BitVec.ofInt 64 3).toNat : Int) = _
  rw [BitVec.toNat_and, show (BitVec.ofInt 64 3).toNat = 2 ^ 2 - 1 from rfl, Nat.and_two_pow_sub_one_eq_mod, BitVec.toNat_ofInt, IntKind.wrap_i64]
  omega
def resQ (x y : Int) (n : Int) : Int × Int := qu x y (n % 4).toNat

end Go.Proofs.Ytckochcocflleaa
