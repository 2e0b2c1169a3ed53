/-
  Layer 10: sums round a circle, for GaussWays.
-/
import Derived.Test.YtbbbojhncfdbdaaGaQ
namespace Go.Proofs.Ytbbbojhncfdbdaa
set_option linter.unusedVariables false

def sumTo (f : Nat → Int) : Nat → Int
  | 0 => 0
  | k + 1 => sumTo f k + f k
theorem sum_congr {f g : Nat → Int} : ∀ {n : Nat}, (∀ j, j < n → f j = g j) → sumTo f n = sumTo g n
  | 0, _ => rfl
  | n + 1, h => by simp only [sumTo]; rw [sum_congr (fun j hj => h j (by omega)), h n (by omega)]
theorem sum_front (f : Nat → Int) : ∀ n, sumTo f (n + 1) = f 0 + sumTo (fun j => f (j + 1)) n
  | 0 => by simp [sumTo]
  | n + 1 => by
    have h := sum_front f n
    simp only [sumTo] at h ⊢
    omega
theorem sum_add (f g : Nat → Int) : ∀ n, sumTo (fun j => f j + g j) n = sumTo f n + sumTo g n
  | 0 => rfl
  | n + 1 => by simp only [sumTo]; rw [sum_add f g n]; omega
theorem sum_neg (f : Nat → Int) : ∀ n, sumTo (fun j => -f j) n = -sumTo f n
  | 0 => rfl
  | n + 1 => by simp only [sumTo]; rw [sum_neg f n]; omega
theorem sum_split (f : Nat → Int) (m : Nat) : ∀ n, sumTo f (m + n) = sumTo f m + sumTo (fun j => f (m + j)) n
  | 0 => by simp [sumTo]
  | n + 1 => by
    have h := sum_split f m n
    show sumTo f (m + n) + f (m + n) = _
    simp only [sumTo]
    omega
theorem sum_rev (f : Nat → Int) : ∀ n, sumTo (fun j => f (n - 1 - j)) n = sumTo f n
  | 0 => rfl
  | n + 1 => by
    rw [sum_front]
    simp only [sumTo, Nat.add_sub_cancel, Nat.sub_zero]
    rw [sum_congr (g := fun j => f (n - 1 - j)) (fun j hj => by rw [show n - (j + 1) = n - 1 - j by omega]), sum_rev f n]
    omega
/-- A sum round a circle may begin one step on. -/
theorem sum_turn (f : Nat → Int) (n : Nat) : sumTo (fun j => f ((j + 1) % n)) n = sumTo f n := by
  cases n with
  | zero => rfl
  | succ n =>
    rw [sum_front f n]
    simp only [sumTo]
    rw [sum_congr (g := fun j => f (j + 1)) (fun j hj => by rw [Nat.mod_eq_of_lt (by omega)]), Nat.mod_self]
    omega
/-- .. or k steps on. -/
theorem sum_turns (f : Nat → Int) (n : Nat) : ∀ k, sumTo (fun j => f ((j + k) % n)) n = sumTo f n
  | 0 => sum_congr fun j hj => by rw [Nat.add_zero, Nat.mod_eq_of_lt hj]
  | k + 1 => by
    rw [← sum_turns f n k, ← sum_turn (fun j => f ((j + k) % n)) n]
    exact sum_congr fun j hj => by rw [Nat.mod_add_mod, show j + (k + 1) = j + 1 + k by omega]
/-- The area as a sum. -/
theorem area_sum (X Y : Nat → Int) (n : Nat) : ∀ k, areaTo X Y n k = sumTo (fun j => crossI (X j) (Y j) (X ((j + 1) % n)) (Y ((j + 1) % n))) k
  | 0 => rfl
  | k + 1 => by simp only [areaTo, sumTo]; rw [area_sum X Y n k]
theorem cross_moved (x y u v a b : Int) : crossI (x + a) (y + b) (u + a) (v + b) = crossI x y u v + (a * v - b * u) + (b * x - a * y) := by
  unfold crossI
  simp only [Int.add_mul, Int.mul_add]
  have m1 := Int.mul_comm x b; have m2 := Int.mul_comm y a; have m3 := Int.mul_comm a b
  omega
/-- The area stays where the way is moved. -/
theorem area_moved (X Y : Nat → Int) (a b : Int) (n : Nat) : areaTo (fun j => X j + a) (fun j => Y j + b) n n = areaTo X Y n n := by
  rw [area_sum, area_sum]
  rw [sum_congr (fun j hj => cross_moved (X j) (Y j) (X ((j + 1) % n)) (Y ((j + 1) % n)) a b)]
  rw [sum_add, sum_add]
  have h := sum_turn (fun j => a * Y j - b * X j) n
  have h2 := sum_neg (fun j => a * Y j - b * X j) n
  have h3 : sumTo (fun j => b * X j - a * Y j) n = -sumTo (fun j => a * Y j - b * X j) n := (sum_congr (g := fun j => -(a * Y j - b * X j)) (fun j hj => by omega)).trans h2
  rw [h, h3]
  omega
/-- .. and where it is begun elsewhere. -/
theorem area_begun (X Y : Nat → Int) (n k : Nat) : areaTo (fun j => X ((j + k) % n)) (fun j => Y ((j + k) % n)) n n = areaTo X Y n n := by
  have h := sum_turns (fun j => crossI (X j) (Y j) (X ((j + 1) % n)) (Y ((j + 1) % n))) n k
  rw [area_sum, area_sum, ← h]
  exact sum_congr fun j hj => by
    rw [Nat.mod_add_mod, Nat.mod_add_mod, show j + 1 + k = j + k + 1 by omega]
theorem cross_anti (x y u v : Int) : crossI u v x y = -crossI x y u v := by
  unfold crossI
  rw [Int.mul_comm u y, Int.mul_comm v x]; omega
/-- .. and turns its sign where it is gone the other way. -/
theorem area_back (X Y : Nat → Int) (n : Nat) : areaTo (fun j => X (n - 1 - j)) (fun j => Y (n - 1 - j)) n n = -areaTo X Y n n := by
  cases n with
  | zero => rfl
  | succ n =>
    have h := sum_rev (fun j => crossI (X j) (Y j) (X ((j + 1) % (n + 1))) (Y ((j + 1) % (n + 1)))) (n + 1)
    have h2 := sum_turn (fun j => crossI (X (n - j)) (Y (n - j)) (X ((n - j + 1) % (n + 1))) (Y ((n - j + 1) % (n + 1)))) (n + 1)
    simp only [Nat.add_sub_cancel] at h ⊢
    rw [area_sum, area_sum, ← h, ← h2, ← sum_neg]
    refine sum_congr fun j hj => ?_
    rw [← cross_anti]
    rcases Nat.lt_or_ge j n with hjn | hjn
    · rw [Nat.mod_eq_of_lt (by omega : j + 1 < n + 1), show n - (j + 1) + 1 = n - j by omega, Nat.mod_eq_of_lt (by omega : n - j < n + 1)]
    · obtain rfl : j = n := by omega
      rw [Nat.mod_self, Nat.sub_zero, Nat.mod_self, Nat.sub_self]
/-- .. and is the sum of the areas of its two parts. -/
theorem area_parts (X Y : Nat → Int) (n k : Nat) (hk : k < n) :
    areaTo X Y (k + 1) (k + 1) + areaTo (joinP (n - k) (fun j => X (k + j)) (fun _ => X 0)) (joinP (n - k) (fun j => Y (k + j)) (fun _ => Y 0)) (n - k + 1) (n - k + 1) = areaTo X Y n n := by
  obtain ⟨m, rfl⟩ : ∃ m, n = k + m + 1 := ⟨n - k - 1, by omega⟩
  rw [show k + m + 1 - k = m + 1 by omega, area_sum, area_sum, area_sum]
  simp only [sumTo]
  have a1 := sum_congr (f := fun j => crossI (X j) (Y j) (X ((j + 1) % (k + 1))) (Y ((j + 1) % (k + 1)))) (g := fun j => crossI (X j) (Y j) (X (j + 1)) (Y (j + 1))) (n := k) (fun j hj => by rw [Nat.mod_eq_of_lt (by omega)])
  have a2 := sum_congr (f := fun j => crossI (X j) (Y j) (X ((j + 1) % (k + m + 1))) (Y ((j + 1) % (k + m + 1)))) (g := fun j => crossI (X j) (Y j) (X (j + 1)) (Y (j + 1))) (n := k + m) (fun j hj => by rw [Nat.mod_eq_of_lt (by omega)])
  have a3 := sum_congr (f := fun j => crossI (joinP (m + 1) (fun j => X (k + j)) (fun _ => X 0) j) (joinP (m + 1) (fun j => Y (k + j)) (fun _ => Y 0) j) (joinP (m + 1) (fun j => X (k + j)) (fun _ => X 0) ((j + 1) % (m + 1 + 1))) (joinP (m + 1) (fun j => Y (k + j)) (fun _ => Y 0) ((j + 1) % (m + 1 + 1)))) (g := fun j => crossI (X (k + j)) (Y (k + j)) (X (k + j + 1)) (Y (k + j + 1))) (n := m) (fun j hj => by
    rw [Nat.mod_eq_of_lt (by omega)]
    unfold joinP
    rw [if_pos (by omega), if_pos (by omega), if_pos (by omega), if_pos (by omega)]
    rfl)
  have a4 := sum_split (fun j => crossI (X j) (Y j) (X (j + 1)) (Y (j + 1))) k m
  have j1 : ∀ X : Nat → Int, joinP (m + 1) (fun j => X (k + j)) (fun _ => X 0) m = X (k + m) := fun X => by unfold joinP; rw [if_pos (by omega)]
  have j2 : ∀ X : Nat → Int, joinP (m + 1) (fun j => X (k + j)) (fun _ => X 0) (m + 1) = X 0 := fun X => by unfold joinP; rw [if_neg (by omega)]
  have j3 : ∀ X : Nat → Int, joinP (m + 1) (fun j => X (k + j)) (fun _ => X 0) 0 = X k := fun X => by unfold joinP; rw [if_pos (by omega)]; rfl
  rw [a1, a2, a3, a4, Nat.mod_eq_of_lt (by omega : m + 1 < m + 1 + 1), Nat.mod_self, Nat.mod_self, Nat.mod_self, j1, j1, j2, j2, j3, j3, cross_anti (X k) (Y k)]
  omega
end Go.Proofs.Ytbbbojhncfdbdaa
