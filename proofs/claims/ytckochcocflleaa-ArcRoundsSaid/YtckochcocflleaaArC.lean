/-
  Layer 22: how near a rounded share is; lengths and sides of a vector in a direction, in numbers.
-/
import Derived.Test.YtckochcocflleaaArA
namespace Go.Proofs.Ytckochcocflleaa
set_option linter.unusedVariables false

/-- How near a rounded share is: q is its size. -/
def NearQ (q p r s : Int) : Prop := 0 ≤ q ∧ (q = 0 ∨ (2 * q - 1) * (2 * q - 1) * s ≤ 2 * p * r * (2 * p * r)) ∧ 2 * p * r * (2 * p * r) < (2 * q + 1) * (2 * q + 1) * s
theorem sq_mono {a b : Int} (h : 0 ≤ a) (k : a ≤ b) : a * a ≤ b * b := Int.mul_le_mul k k h (by omega)
theorem root_near {p r s : Int} (hs : 1 ≤ s) : NearQ ((rootI (2 * p * r * (2 * p * r) / s) + 1) / 2) p r s := by
  have h0 := sq_nn (2 * p * r)
  unfold NearQ
  generalize 2 * p * r * (2 * p * r) = A at h0 ⊢
  have hq : 0 ≤ A / s := Int.ediv_nonneg h0 (by omega)
  obtain ⟨k0, k1, k2⟩ := rootI_is hq
  have e1 : A / s * s ≤ A := Int.ediv_mul_le A (by omega)
  have e2 : A < (A / s + 1) * s := Int.lt_ediv_add_one_mul_self A (by omega)
  generalize rootI (A / s) = R at *
  generalize A / s = Q at *
  have hq1 : 2 * ((R + 1) / 2) - 1 ≤ R ∧ R ≤ 2 * ((R + 1) / 2) ∧ 0 ≤ (R + 1) / 2 := by omega
  generalize (R + 1) / 2 = q at *
  refine ⟨hq1.2.2, ?_, ?_⟩
  · by_cases hz : q = 0
    · exact .inl hz
    · refine .inr ?_
      have h1 : (2 * q - 1) * (2 * q - 1) ≤ R * R := sq_mono (by omega) (by omega)
      have h2 : (2 * q - 1) * (2 * q - 1) * s ≤ Q * s := Int.mul_le_mul_of_nonneg_right (by omega) (by omega)
      omega
  · have h1 : (R + 1) * (R + 1) ≤ (2 * q + 1) * (2 * q + 1) := sq_mono (by omega) (by omega)
    have h2 : (Q + 1) * s ≤ (2 * q + 1) * (2 * q + 1) * s := Int.mul_le_mul_of_nonneg_right (by omega) (by omega)
    omega
theorem shr_near {p r s : Int} (hs : 1 ≤ s) : NearQ (if p < 0 then -shrI p r s else shrI p r s) p r s := by
  have h := root_near (p := p) (r := r) hs
  unfold shrI
  split
  · rw [Int.neg_neg]; exact h
  · exact h
theorem shr_zero {r s : Int} : shrI 0 r s = 0 := by
  unfold shrI
  have e : 2 * 0 * r * (2 * 0 * r) / s = 0 := by simp
  rw [if_neg (by omega), e]
  obtain ⟨h0, h1, _⟩ := rootI_is (Int.le_refl 0)
  have : rootI 0 = 0 := by
    rcases Int.lt_or_le 0 (rootI 0) with h | h
    · have := Int.mul_pos h h
      omega
    · omega
  rw [this]; rfl
theorem shr_neg {p r s : Int} : shrI (-p) r s = -shrI p r s := by
  by_cases hp : p = 0
  · subst hp
    rw [show (-0 : Int) = 0 by rfl, shr_zero]; rfl
  · unfold shrI
    have e : 2 * -p * r * (2 * -p * r) = 2 * p * r * (2 * p * r) := by grind
    rw [e]
    split <;> split <;> omega
theorem len_up {q w p d r s : Int} (hr : 1 ≤ r) (hs : s = p * p + d * d) (hs1 : 1 ≤ s) (h : NearQ q p r s) (k : NearQ w d r s) : q * q + w * w < (r + 1) * (r + 1) := by
  obtain ⟨q0, q1, _⟩ := h
  obtain ⟨w0, w1, _⟩ := k
  have hp := sq_nn p
  have hd := sq_nn d
  have one : ∀ z y : Int, 0 ≤ z → y * y ≤ s → (2 * z - 1) * (2 * z - 1) * s ≤ 2 * y * r * (2 * y * r) → z ≤ r := by
    intro z y hz hy h
    have e : 2 * y * r * (2 * y * r) = 2 * r * (2 * r) * (y * y) := by grind
    have h1 : 2 * r * (2 * r) * (y * y) ≤ 2 * r * (2 * r) * s := Int.mul_le_mul_of_nonneg_left hy (sq_nn (2 * r))
    have h2 : (2 * z - 1) * (2 * z - 1) * s ≤ 2 * r * (2 * r) * s := by omega
    have h3 : (2 * z - 1) * (2 * z - 1) ≤ 2 * r * (2 * r) := Int.le_of_mul_le_mul_right h2 (by omega)
    rcases Int.lt_or_le r z with hz | hz
    · have := sq_mono (a := 2 * r + 1) (b := 2 * z - 1) (by omega) (by omega)
      have e2 : (2 * r + 1) * (2 * r + 1) = 2 * r * (2 * r) + 4 * r + 1 := by grind
      omega
    · exact hz
  have e0 : (r + 1) * (r + 1) = r * r + 2 * r + 1 := by grind
  rcases q1 with rfl | q1
  · rcases w1 with rfl | w1
    · have := sq_nn r; omega
    · have := one w d w0 (by omega) w1
      have := sq_mono w0 this
      omega
  · rcases w1 with rfl | w1
    · have := one q p q0 (by omega) q1
      have := sq_mono q0 this
      omega
    · have e1 : 2 * p * r * (2 * p * r) + 2 * d * r * (2 * d * r) = 4 * (r * r) * s := by rw [hs]; grind
      have e2 : ((2 * q - 1) * (2 * q - 1) + (2 * w - 1) * (2 * w - 1)) * s = (2 * q - 1) * (2 * q - 1) * s + (2 * w - 1) * (2 * w - 1) * s := by grind
      have h3 : (2 * q - 1) * (2 * q - 1) + (2 * w - 1) * (2 * w - 1) ≤ 4 * (r * r) := Int.le_of_mul_le_mul_right (a := s) (by omega) (by omega)
      have h4 := sq_nn (2 * q - 1 - (2 * w - 1))
      have e3 : (2 * q - 1 - (2 * w - 1)) * (2 * q - 1 - (2 * w - 1)) + (2 * q - 1 + (2 * w - 1)) * (2 * q - 1 + (2 * w - 1)) = 2 * ((2 * q - 1) * (2 * q - 1) + (2 * w - 1) * (2 * w - 1)) := by grind
      have h5 : 2 * q - 1 + (2 * w - 1) ≤ 3 * r := by
        rcases Int.lt_or_le (3 * r) (2 * q - 1 + (2 * w - 1)) with h | h
        · have := sq_mono (a := 3 * r) (b := 2 * q - 1 + (2 * w - 1)) (by omega) (by omega)
          have e4 : 3 * r * (3 * r) = 9 * (r * r) := by grind
          have := Int.mul_pos (show 0 < r by omega) (show 0 < r by omega)
          omega
        · exact h
      have e5 : (2 * q - 1) * (2 * q - 1) = 4 * (q * q) - 4 * q + 1 := by grind
      have e6 : (2 * w - 1) * (2 * w - 1) = 4 * (w * w) - 4 * w + 1 := by grind
      omega
theorem len_dn {q w p d r s : Int} (hr : 1 ≤ r) (hs : s = p * p + d * d) (hs1 : 1 ≤ s) (h : NearQ q p r s) (k : NearQ w d r s) : (r - 1) * (r - 1) < q * q + w * w := by
  obtain ⟨q0, _, q2⟩ := h
  obtain ⟨w0, _, w2⟩ := k
  have e1 : 2 * p * r * (2 * p * r) + 2 * d * r * (2 * d * r) = 4 * (r * r) * s := by rw [hs]; grind
  have e2 : ((2 * q + 1) * (2 * q + 1) + (2 * w + 1) * (2 * w + 1)) * s = (2 * q + 1) * (2 * q + 1) * s + (2 * w + 1) * (2 * w + 1) * s := by grind
  have h3 : 4 * (r * r) < (2 * q + 1) * (2 * q + 1) + (2 * w + 1) * (2 * w + 1) := Int.lt_of_mul_lt_mul_right (a := s) (by omega) (by omega)
  rcases Int.lt_or_le ((r - 1) * (r - 1)) (q * q + w * w) with h | h
  · exact h
  · exfalso
    have h4 := sq_nn (q - w)
    have e3 : (q - w) * (q - w) + (q + w) * (q + w) = 2 * (q * q + w * w) := by grind
    have h5 : 2 * (q + w) ≤ 3 * (r - 1) := by
      rcases Int.lt_or_le (3 * (r - 1)) (2 * (q + w)) with h | h
      · have := sq_mono (a := 3 * (r - 1) + 1) (b := 2 * (q + w)) (by omega) (by omega)
        have e4 : (3 * (r - 1) + 1) * (3 * (r - 1) + 1) = 9 * ((r - 1) * (r - 1)) + 6 * (r - 1) + 1 := by grind
        have e5 : 2 * (q + w) * (2 * (q + w)) = 4 * ((q + w) * (q + w)) := by grind
        have := sq_nn (r - 1)
        omega
      · exact h
    have e5 : (2 * q + 1) * (2 * q + 1) = 4 * (q * q) + 4 * q + 1 := by grind
    have e6 : (2 * w + 1) * (2 * w + 1) = 4 * (w * w) + 4 * w + 1 := by grind
    have e7 : (r - 1) * (r - 1) = r * r - 2 * r + 1 := by grind
    omega
theorem abs_sq {p z : Int} : (if p < 0 then -z else z) * (if p < 0 then -z else z) = z * z := by split <;> grind
theorem shr_len {p d r s : Int} (hr : 1 ≤ r) (hs : s = p * p + d * d) (hs1 : 1 ≤ s) : (r - 1) * (r - 1) < shrI p r s * shrI p r s + shrI d r s * shrI d r s ∧ shrI p r s * shrI p r s + shrI d r s * shrI d r s < (r + 1) * (r + 1) := by
  have h := shr_near (p := p) (r := r) hs1
  have k := shr_near (p := d) (r := r) hs1
  have h1 := len_dn hr hs hs1 h k
  have h2 := len_up hr hs hs1 h k
  rw [abs_sq, abs_sq] at h1 h2
  exact ⟨h1, h2⟩
theorem shr_along {p r s : Int} (hs : 1 ≤ s) : 0 ≤ p * shrI p r s ∧ (shrI p r s ≠ 0 → 0 < p * shrI p r s) := by
  obtain ⟨h0, h1, _⟩ := shr_near (p := p) (r := r) hs
  by_cases hp : p = 0
  · subst hp
    rw [shr_zero]; simp
  · rcases Int.lt_or_lt_of_ne hp with h | h
    · rw [if_pos h] at h0
      have e : p * shrI p r s = -p * -shrI p r s := by grind
      rw [e]
      exact ⟨Int.mul_nonneg (by omega) h0, fun hz => Int.mul_pos (by omega) (by omega)⟩
    · rw [if_neg (by omega)] at h0
      exact ⟨Int.mul_nonneg (by omega) h0, fun hz => Int.mul_pos (by omega) (by omega)⟩
theorem shr_dot {p d r s : Int} (hr : 1 ≤ r) (hs : s = p * p + d * d) (hs1 : 1 ≤ s) : 0 < p * shrI p r s + d * shrI d r s := by
  have h := (shr_len hr hs hs1).1
  have h1 := shr_along (p := p) (r := r) hs1
  have h2 := shr_along (p := d) (r := r) hs1
  have := sq_nn (r - 1)
  by_cases hz : shrI p r s = 0
  · by_cases hy : shrI d r s = 0
    · rw [hz, hy] at h; omega
    · have := h2.2 hy; omega
  · have := h1.2 hz; omega
theorem al_facts {x y r : Int} (h : ¬ (x = 0 ∧ y = 0)) (hr : 1 ≤ r) : alX (-y) x r = -alY x y r ∧ alY (-y) x r = alX x y r ∧ alX (-x) (-y) r = -alX x y r ∧ alY (-x) (-y) r = -alY x y r ∧
    (r - 1) * (r - 1) < alX x y r * alX x y r + alY x y r * alY x y r ∧ alX x y r * alX x y r + alY x y r * alY x y r < (r + 1) * (r + 1) ∧ 0 < x * alX x y r + y * alY x y r := by
  have h1 := sq_pos_of h
  unfold alX alY
  have e1 : -y * -y + x * x = x * x + y * y := by grind
  have e2 : -x * -x + -y * -y = x * x + y * y := by grind
  rw [e1, e2, shr_neg, shr_neg]
  obtain ⟨a, b⟩ := shr_len (p := x) (d := y) hr rfl h1
  exact ⟨rfl, rfl, rfl, rfl, a, b, shr_dot hr rfl h1⟩
theorem al_in {x y r : Int} (h : ¬ (x = 0 ∧ y = 0)) (hr : 1 ≤ r) : (-r ≤ alX x y r ∧ alX x y r ≤ r) ∧ (-r ≤ alY x y r ∧ alY x y r ≤ r) := by
  have h1 := sq_pos_of h
  have hx := sq_nn x
  have hy := sq_nn y
  exact ⟨shr_in (by omega) h1 (by omega), shr_in (by omega) h1 (by omega)⟩
end Go.Proofs.Ytckochcocflleaa
