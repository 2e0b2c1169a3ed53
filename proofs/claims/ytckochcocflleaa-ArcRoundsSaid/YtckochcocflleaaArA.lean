/-
  Layer 22: a vector of a length in a direction, in numbers.
-/
import Derived.Test.YtckochcocflleaaRoot
namespace Go.Proofs.Ytckochcocflleaa
set_option linter.unusedVariables false

theorem root_ex : ∀ a : Nat, ∃ r : Nat, r * r ≤ a ∧ a < (r + 1) * (r + 1)
  | 0 => ⟨0, by omega, by omega⟩
  | a + 1 => by
    obtain ⟨r, h1, h2⟩ := root_ex a
    by_cases h : a + 1 < (r + 1) * (r + 1)
    · exact ⟨r, by omega, h⟩
    · refine ⟨r + 1, by omega, ?_⟩
      have e1 : (r + 1) * (r + 1) = r * r + 2 * r + 1 := by grind
      have e2 : (r + 1 + 1) * (r + 1 + 1) = r * r + 4 * r + 4 := by grind
      omega
theorem root_exI (a : Int) (h : 0 ≤ a) : ∃ r : Int, IsRoot a r := by
  obtain ⟨r, h1, h2⟩ := root_ex a.toNat
  refine ⟨r, by omega, ?_, ?_⟩
  · have : ((r * r : Nat) : Int) ≤ a := by omega
    simpa using this
  · have : a < (((r + 1) * (r + 1) : Nat) : Int) := by omega
    simpa using this
theorem root_one {a r s : Int} (h : IsRoot a r) (k : IsRoot a s) : r = s := by
  obtain ⟨h0, h1, h2⟩ := h
  obtain ⟨k0, k1, k2⟩ := k
  rcases Int.lt_trichotomy r s with hlt | heq | hgt
  · have : (r + 1) * (r + 1) ≤ s * s := Int.mul_le_mul (by omega) (by omega) (by omega) (by omega)
    omega
  · exact heq
  · have : (s + 1) * (s + 1) ≤ r * r := Int.mul_le_mul (by omega) (by omega) (by omega) (by omega)
    omega
open Classical in
noncomputable def rootI (a : Int) : Int := if h : 0 ≤ a then Classical.choose (root_exI a h) else 0
theorem rootI_is {a : Int} (h : 0 ≤ a) : IsRoot a (rootI a) := by unfold rootI; rw [dif_pos h]; exact Classical.choose_spec (root_exI a h)
theorem rootI_eq {a r : Int} (h : IsRoot a r) : rootI a = r := by
  have h0 : 0 ≤ a := by
    have := Int.mul_nonneg h.1 h.1
    have := h.2.1
    omega
  exact root_one (rootI_is h0) h
/-- Part times r, divided by the root of sq, to the nearest whole number. -/
noncomputable def shrI (p r sq : Int) : Int := if p < 0 then -((rootI (2 * p * r * (2 * p * r) / sq) + 1) / 2) else (rootI (2 * p * r * (2 * p * r) / sq) + 1) / 2
noncomputable def alX (dx dy r : Int) : Int := shrI dx r (dx * dx + dy * dy)
noncomputable def alY (dx dy r : Int) : Int := shrI dy r (dx * dx + dy * dy)
/-- The root is at most twice the length. -/
theorem root_le {p r sq : Int} (hr : 0 ≤ r) (hs : 1 ≤ sq) (hp : p * p ≤ sq) : 0 ≤ 2 * p * r * (2 * p * r) / sq ∧ 0 ≤ rootI (2 * p * r * (2 * p * r) / sq) ∧ rootI (2 * p * r * (2 * p * r) / sq) ≤ 2 * r := by
  have e : 2 * p * r * (2 * p * r) = 4 * (r * r) * (p * p) := by grind
  have hrr : 0 ≤ 4 * (r * r) := by have := Int.mul_nonneg hr hr; omega
  have h0 : 0 ≤ 4 * (r * r) * (p * p) := Int.mul_nonneg hrr (by rcases Int.le_total 0 p with h | h; exact Int.mul_nonneg h h; have := Int.mul_nonneg (show 0 ≤ -p by omega) (show 0 ≤ -p by omega); rwa [Int.neg_mul_neg] at this)
  have h1 : 4 * (r * r) * (p * p) / sq ≤ 4 * (r * r) := by
    apply Int.ediv_le_of_le_mul (by omega)
    exact Int.mul_le_mul_of_nonneg_left hp hrr
  have hq : 0 ≤ 4 * (r * r) * (p * p) / sq := Int.ediv_nonneg h0 (by omega)
  rw [e]
  obtain ⟨k0, k1, k2⟩ := rootI_is hq
  refine ⟨hq, k0, ?_⟩
  generalize rootI (4 * (r * r) * (p * p) / sq) = R at *
  rcases Int.lt_or_le (2 * r) R with h | h
  · have h2 : (2 * r + 1) * (2 * r + 1) ≤ R * R := Int.mul_le_mul (by omega) (by omega) (by omega) (by omega)
    have h3 : (2 * r + 1) * (2 * r + 1) = 4 * (r * r) + 4 * r + 1 := by grind
    omega
  · exact h
theorem shr_in {p r sq : Int} (hr : 0 ≤ r) (hs : 1 ≤ sq) (hp : p * p ≤ sq) : -r ≤ shrI p r sq ∧ shrI p r sq ≤ r := by
  obtain ⟨_, h1, h2⟩ := root_le hr hs hp
  unfold shrI
  generalize rootI (2 * p * r * (2 * p * r) / sq) = R at *
  split <;> omega
theorem sq_nn (z : Int) : 0 ≤ z * z := by
  rcases Int.le_total 0 z with h | h
  · exact Int.mul_nonneg h h
  · have := Int.mul_nonneg (show 0 ≤ -z by omega) (show 0 ≤ -z by omega)
    rwa [Int.neg_mul_neg] at this
theorem sq_pos_of {x y : Int} (h : ¬ (x = 0 ∧ y = 0)) : 1 ≤ x * x + y * y := by
  have h1 := sq_nn x
  have h2 := sq_nn y
  by_cases hx : x = 0
  · have hy : y ≠ 0 := fun e => h ⟨hx, e⟩
    rcases Int.lt_or_lt_of_ne hy with k | k
    · have := Int.mul_pos (show 0 < -y by omega) (show 0 < -y by omega)
      rw [Int.neg_mul_neg] at this
      omega
    · have := Int.mul_pos k k
      omega
  · rcases Int.lt_or_lt_of_ne hx with k | k
    · have := Int.mul_pos (show 0 < -x by omega) (show 0 < -x by omega)
      rw [Int.neg_mul_neg] at this
      omega
    · have := Int.mul_pos k k
      omega
end Go.Proofs.Ytckochcocflleaa
