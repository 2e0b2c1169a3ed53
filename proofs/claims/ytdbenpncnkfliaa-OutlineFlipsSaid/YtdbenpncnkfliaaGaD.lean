/-
  Layer 10: 'Turn', 'Quarter', walked.
-/
import Derived.Test.YtdbenpncnkfliaaGaC
namespace Go.Proofs.Ytdbenpncnkfliaa
open Go.RowKit
set_option linter.unusedVariables false

theorem stands_zero : Stands 0 0 := ⟨false, 0, -1074, by decide, is_zero false _⟩
theorem stands_one : Stands 4607182418800017408 1 := by
  have h := stands_int 1 (by decide)
  rw [show floatOfInt .f64 1 = 4607182418800017408 by decide +kernel] at h
  exact h
theorem order_self {b : Nat} {n : Int} (h : Stands b n) : FloatKind.f64.format.order b b = some .eq := by
  have := stands_order h h
  rw [show compare n n = .eq by simp [compare, compareOfLessAndEq]] at this
  exact this
def sgnI (n : Int) : Int := if n < 0 then -1 else if n = 0 then 0 else 1

/-- The difference of two points as complex numbers. -/
def suB (a b c d : Nat) : Nat × Nat := (cSumBits .sub .f64 a b c d).getD (0, 0)
theorem suB_stands {a b c d : Nat} {p q r s : Int} (ha : Stands a p) (hb : Stands b q) (hc : Stands c r) (hd : Stands d s) (h1 : (p - r).natAbs < 2 ^ 53) (h2 : (q - s).natAbs < 2 ^ 53) :
    cSumBits .sub .f64 a b c d = some ((suB a b c d).1, (suB a b c d).2) ∧ Stands (suB a b c d).1 (p - r) ∧ Stands (suB a b c d).2 (q - s) := by
  obtain ⟨x1, e1, s1⟩ := stands_sub ha hc h1
  obtain ⟨x2, e2, s2⟩ := stands_sub hb hd h2
  have e : cSumBits .sub .f64 a b c d = some (x1, x2) := by unfold cSumBits; simp only [e1, e2, Option.bind_some]
  unfold suB
  rw [e]
  exact ⟨rfl, s1, s2⟩
def turnI (x y u v p q : Int) : Int := sgnI (crossI (u - x) (v - y) (p - x) (q - y))

end Go.Proofs.Ytdbenpncnkfliaa
