/-
  Layer 22: the law ArcRounds: two corners of a round that follow one another in numbers; the corners in their order; the walk.
-/
import Derived.Test.YtckochcocflleaaArC
import Derived.Test.YtckochcocflleaaArI
import Derived.Test.YtckochcocflleaaArF
import Derived.Test.YtckochcocflleaaArJ
import Derived.Test.YtckochcocflleaaArO
namespace Go.Proofs.Ytckochcocflleaa
set_option linter.unusedVariables false
section

theorem le_sq {x y : Int} (hy : 0 ≤ y) (h : x * x ≤ y * y) : x ≤ y := by
  rcases Int.lt_or_le y x with k | k
  · have h1 : y * y ≤ y * x := Int.mul_le_mul_of_nonneg_left (by omega) hy
    have h2 : y * x < x * x := Int.mul_lt_mul_of_pos_right k (by omega)
    omega
  · exact k
theorem tri_up {x y A B s : Int} (hx : 0 ≤ x) (hy : 0 ≤ y) (hA : 0 ≤ A) (hB : 0 ≤ B) (hs : 0 ≤ s) (h1 : x * x * s ≤ A * A) (h2 : y * y * s ≤ B * B) : (x + y) * (x + y) * s ≤ (A + B) * (A + B) := by
  have h3 : x * x * s * (y * y * s) ≤ A * A * (B * B) := Int.mul_le_mul h1 h2 (Int.mul_nonneg (sq_nn y) hs) (sq_nn A)
  have h4 : x * y * s * (x * y * s) ≤ A * B * (A * B) := by
    have e1 : x * y * s * (x * y * s) = x * x * s * (y * y * s) := by grind
    have e2 : A * B * (A * B) = A * A * (B * B) := by grind
    omega
  have h5 := le_sq (Int.mul_nonneg hA hB) h4
  have e1 : (x + y) * (x + y) * s = x * x * s + 2 * (x * y * s) + y * y * s := by grind
  have e2 : (A + B) * (A + B) = A * A + 2 * (A * B) + B * B := by grind
  omega
theorem tri_dn {x y A B s : Int} (hx : 0 ≤ x) (hy : 0 ≤ y) (hA : 0 ≤ A) (hB : 0 ≤ B) (hs : 0 ≤ s) (h1 : A * A ≤ x * x * s) (h2 : B * B ≤ y * y * s) : (A + B) * (A + B) ≤ (x + y) * (x + y) * s := by
  have h3 : A * A * (B * B) ≤ x * x * s * (y * y * s) := Int.mul_le_mul h1 h2 (sq_nn B) (Int.mul_nonneg (sq_nn x) hs)
  have h4 : A * B * (A * B) ≤ x * y * s * (x * y * s) := by
    have e1 : x * y * s * (x * y * s) = x * x * s * (y * y * s) := by grind
    have e2 : A * B * (A * B) = A * A * (B * B) := by grind
    omega
  have h5 := le_sq (Int.mul_nonneg (Int.mul_nonneg hx hy) hs) h4
  have e1 : (x + y) * (x + y) * s = x * x * s + 2 * (x * y * s) + y * y * s := by grind
  have e2 : (A + B) * (A + B) = A * A + 2 * (A * B) + B * B := by grind
  omega
/-- How far a corner goes along a side's middle direction. -/
theorem far_one {n m x y w1 w2 s dt ww a b : Int} (hx : 0 ≤ x) (hy : 0 ≤ y) (hw1 : 0 ≤ w1) (hw2 : 0 ≤ w2) (hn : 50 < n) (hs : 0 ≤ s) (hdt : dt = x * w1 + y * w2) (hcr : dt * dt + m * m = s * ww) (h0 : 0 ≤ dt) (h2 : 2 * (m * m) ≤ dt) (hK : (w1 + w2) * (w1 + w2) ≤ 16 * s) (hlt : n + 8 * s < 200 * dt + 50)
    (ha : 0 ≤ a) (hb : 0 ≤ b) (NA : 2 * x * n * (2 * x * n) ≤ (2 * a + 1) * (2 * a + 1) * s) (NB : 2 * y * n * (2 * y * n) ≤ (2 * b + 1) * (2 * b + 1) * s) : (n - 50) * (n - 50) * ww ≤ (a * w1 + b * w2) * (a * w1 + b * w2) := by
  rcases Int.lt_or_le ((a * w1 + b * w2) * (a * w1 + b * w2)) ((n - 50) * (n - 50) * ww) with hneg | h
  case inr => exact h
  exfalso
  have hZ : 0 ≤ a * w1 + b * w2 := Int.add_nonneg (Int.mul_nonneg ha hw1) (Int.mul_nonneg hb hw2)
  have hxn : 0 ≤ 2 * x * n := Int.mul_nonneg (by omega) (by omega)
  have hyn : 0 ≤ 2 * y * n := Int.mul_nonneg (by omega) (by omega)
  have t1 : (2 * x * n * w1 + 2 * y * n * w2) * (2 * x * n * w1 + 2 * y * n * w2) ≤ ((2 * a + 1) * w1 + (2 * b + 1) * w2) * ((2 * a + 1) * w1 + (2 * b + 1) * w2) * s := by
    refine tri_dn (Int.mul_nonneg (by omega) hw1) (Int.mul_nonneg (by omega) hw2) (Int.mul_nonneg hxn hw1) (Int.mul_nonneg hyn hw2) hs ?_ ?_
    · have := Int.mul_le_mul_of_nonneg_right NA (sq_nn w1)
      have e1 : 2 * x * n * w1 * (2 * x * n * w1) = 2 * x * n * (2 * x * n) * (w1 * w1) := by grind
      have e2 : (2 * a + 1) * w1 * ((2 * a + 1) * w1) * s = (2 * a + 1) * (2 * a + 1) * s * (w1 * w1) := by grind
      omega
    · have := Int.mul_le_mul_of_nonneg_right NB (sq_nn w2)
      have e1 : 2 * y * n * w2 * (2 * y * n * w2) = 2 * y * n * (2 * y * n) * (w2 * w2) := by grind
      have e2 : (2 * b + 1) * w2 * ((2 * b + 1) * w2) * s = (2 * b + 1) * (2 * b + 1) * s * (w2 * w2) := by grind
      omega
  have e0 : 2 * x * n * w1 + 2 * y * n * w2 = 2 * n * dt := by rw [hdt]; grind
  have e1 : (2 * a + 1) * w1 + (2 * b + 1) * w2 = 2 * (a * w1 + b * w2) + (w1 + w2) := by grind
  rw [e0, e1] at t1
  clear e0 e1 NA NB
  generalize a * w1 + b * w2 = X at *
  have hk0 : 0 ≤ w1 + w2 := by omega
  generalize w1 + w2 = K at *
  clear hdt hxn hyn
  -- the other way about
  have hA : 0 ≤ (n - 50) * (4 * dt + 1) := Int.mul_nonneg (by omega) (by omega)
  have u1 : 4 * X * (4 * X) * s ≤ (n - 50) * (4 * dt + 1) * ((n - 50) * (4 * dt + 1)) := by
    have k1 : X * X * s ≤ (n - 50) * (n - 50) * ww * s := Int.mul_le_mul_of_nonneg_right (by omega) hs
    have k2 : (n - 50) * (n - 50) * ww * s = (n - 50) * (n - 50) * (dt * dt + m * m) := by rw [hcr]; grind
    have k3 : 16 * (dt * dt + m * m) ≤ (4 * dt + 1) * (4 * dt + 1) := by
      have : (4 * dt + 1) * (4 * dt + 1) = 16 * (dt * dt) + 8 * dt + 1 := by grind
      omega
    have k4 : (n - 50) * (n - 50) * (16 * (dt * dt + m * m)) ≤ (n - 50) * (n - 50) * ((4 * dt + 1) * (4 * dt + 1)) := Int.mul_le_mul_of_nonneg_left k3 (sq_nn _)
    have k5 : (n - 50) * (4 * dt + 1) * ((n - 50) * (4 * dt + 1)) = (n - 50) * (n - 50) * ((4 * dt + 1) * (4 * dt + 1)) := by grind
    have k6 : (n - 50) * (n - 50) * (16 * (dt * dt + m * m)) = 16 * ((n - 50) * (n - 50) * (dt * dt + m * m)) := by grind
    have k7 : 4 * X * (4 * X) * s = 16 * (X * X * s) := by grind
    omega
  have u2 : 2 * K * (2 * K) * s ≤ 8 * s * (8 * s) := by
    have k1 : K * K * s ≤ 16 * s * s := Int.mul_le_mul_of_nonneg_right hK hs
    have k2 : 2 * K * (2 * K) * s = 4 * (K * K * s) := by grind
    have k3 : 8 * s * (8 * s) = 4 * (16 * s * s) := by grind
    omega
  have u3 := tri_up (show 0 ≤ 4 * X by omega) (show 0 ≤ 2 * K by omega) hA (show 0 ≤ 8 * s by omega) hs u1 u2
  have u4 : 4 * n * dt * (4 * n * dt) ≤ ((n - 50) * (4 * dt + 1) + 8 * s) * ((n - 50) * (4 * dt + 1) + 8 * s) := by
    have k1 : (4 * X + 2 * K) * (4 * X + 2 * K) * s = 4 * ((2 * X + K) * (2 * X + K) * s) := by grind
    have k2 : 4 * n * dt * (4 * n * dt) = 4 * (2 * n * dt * (2 * n * dt)) := by grind
    omega
  have u5 := le_sq (show 0 ≤ (n - 50) * (4 * dt + 1) + 8 * s by omega) u4
  have e3 : (n - 50) * (4 * dt + 1) = 4 * n * dt + n - 200 * dt - 50 := by grind
  omega
/-- Two near shares, one of a greater part. -/
theorem near_mono {b d y z n s1 s2 : Int} (hs1 : 1 ≤ s1) (hs2 : 1 ≤ s2) (h : NearQ b y n s1) (k : NearQ d z n s2) (hyz : y * y * s2 ≤ z * z * s1) : b ≤ d := by
  obtain ⟨b0, b1, _⟩ := h
  obtain ⟨d0, _, d1⟩ := k
  rcases Int.lt_or_le d b with c | c
  case inr => exact c
  exfalso
  have h1 : (2 * b - 1) * (2 * b - 1) * s1 ≤ 2 * y * n * (2 * y * n) := by
    rcases b1 with rfl | h
    · omega
    · exact h
  have h2 : (2 * d + 1) * (2 * d + 1) ≤ (2 * b - 1) * (2 * b - 1) := sq_mono (by omega) (by omega)
  have h3 : (2 * d + 1) * (2 * d + 1) * s2 ≤ (2 * b - 1) * (2 * b - 1) * s2 := Int.mul_le_mul_of_nonneg_right h2 (by omega)
  have h4 : 2 * z * n * (2 * z * n) * s1 < (2 * b - 1) * (2 * b - 1) * s2 * s1 := Int.mul_lt_mul_of_pos_right (by omega) (by omega)
  have h5 : (2 * b - 1) * (2 * b - 1) * s1 * s2 ≤ 2 * y * n * (2 * y * n) * s2 := Int.mul_le_mul_of_nonneg_right h1 (by omega)
  have h6 : 4 * (n * n) * (y * y * s2) ≤ 4 * (n * n) * (z * z * s1) := Int.mul_le_mul_of_nonneg_left hyz (by have := sq_nn n; omega)
  have e1 : 2 * z * n * (2 * z * n) * s1 = 4 * (n * n) * (z * z * s1) := by grind
  have e2 : 2 * y * n * (2 * y * n) * s2 = 4 * (n * n) * (y * y * s2) := by grind
  have e3 : (2 * b - 1) * (2 * b - 1) * s1 * s2 = (2 * b - 1) * (2 * b - 1) * s2 * s1 := by grind
  omega
/-- Where the foot of the middle lies between two corners, the side is far out. -/
theorem foot_far {n w1 w2 ww a b c d t S : Int} (hn : 0 ≤ n - 50) (hww : ww = w1 * w1 + w2 * w2) (hw : 1 ≤ ww) (ht : t = a * d - b * c) (hS : S = (c - a) * (c - a) + (d - b) * (d - b)) (hl1 : a * c + b * d ≤ a * a + b * b) (hl2 : a * c + b * d ≤ c * c + d * d)
    (hX0 : 0 ≤ a * w1 + b * w2) (hY0 : 0 ≤ c * w1 + d * w2) (hX : (n - 50) * (n - 50) * ww ≤ (a * w1 + b * w2) * (a * w1 + b * w2)) (hY : (n - 50) * (n - 50) * ww ≤ (c * w1 + d * w2) * (c * w1 + d * w2)) : (n - 50) * (n - 50) * S ≤ t * t := by
  obtain ⟨l1, h1⟩ : ∃ l, l = a * a + b * b - (a * c + b * d) := ⟨_, rfl⟩
  obtain ⟨l2, h2⟩ : ∃ l, l = c * c + d * d - (a * c + b * d) := ⟨_, rfl⟩
  have l10 : 0 ≤ l1 := by omega
  have l20 : 0 ≤ l2 := by omega
  have hSl : S = l1 + l2 := by rw [hS, h1, h2]; grind
  have hid : t * ((d - b) * w1 + (a - c) * w2) = l2 * (a * w1 + b * w2) + l1 * (c * w1 + d * w2) := by rw [h1, h2, ht]; grind
  have hcs : ((d - b) * w1 + (a - c) * w2) * ((d - b) * w1 + (a - c) * w2) ≤ S * ww := by
    have e : S * ww = ((d - b) * w1 + (a - c) * w2) * ((d - b) * w1 + (a - c) * w2) + ((d - b) * w2 - (a - c) * w1) * ((d - b) * w2 - (a - c) * w1) := by rw [hS, hww]; grind
    have := sq_nn ((d - b) * w2 - (a - c) * w1)
    omega
  generalize a * w1 + b * w2 = X at *
  generalize c * w1 + d * w2 = Y at *
  generalize (d - b) * w1 + (a - c) * w2 = V at *
  clear hS h1 h2 ht hww hl1 hl2
  obtain ⟨N, hN⟩ : ∃ N, N = (n - 50) * (n - 50) := ⟨_, rfl⟩
  have hN0 : 0 ≤ N := by rw [hN]; exact sq_nn _
  rw [← hN] at hX hY ⊢
  have hM0 : 0 ≤ N * ww := Int.mul_nonneg hN0 (by omega)
  -- X Y is as great
  have hXY : N * ww ≤ X * Y := by
    refine le_sq (Int.mul_nonneg hX0 hY0) ?_
    have k : N * ww * (N * ww) ≤ X * X * (Y * Y) := Int.mul_le_mul hX hY hM0 (sq_nn X)
    have e : X * Y * (X * Y) = X * X * (Y * Y) := by grind
    omega
  have q1 : l2 * l2 * (N * ww) ≤ l2 * l2 * (X * X) := Int.mul_le_mul_of_nonneg_left hX (sq_nn l2)
  have q2 : l1 * l1 * (N * ww) ≤ l1 * l1 * (Y * Y) := Int.mul_le_mul_of_nonneg_left hY (sq_nn l1)
  have q3 : l1 * l2 * (N * ww) ≤ l1 * l2 * (X * Y) := Int.mul_le_mul_of_nonneg_left hXY (Int.mul_nonneg l10 l20)
  have q4 : S * S * (N * ww) ≤ (l2 * X + l1 * Y) * (l2 * X + l1 * Y) := by
    have e1 : S * S * (N * ww) = l1 * l1 * (N * ww) + 2 * (l1 * l2 * (N * ww)) + l2 * l2 * (N * ww) := by rw [hSl]; grind
    have e2 : (l2 * X + l1 * Y) * (l2 * X + l1 * Y) = l1 * l1 * (Y * Y) + 2 * (l1 * l2 * (X * Y)) + l2 * l2 * (X * X) := by grind
    omega
  have q5 : t * t * (V * V) ≤ t * t * (S * ww) := Int.mul_le_mul_of_nonneg_left hcs (sq_nn t)
  have q6 : (l2 * X + l1 * Y) * (l2 * X + l1 * Y) = t * t * (V * V) := by rw [← hid]; grind
  have q7 : N * S * (S * ww) ≤ t * t * (S * ww) := by
    have e : N * S * (S * ww) = S * S * (N * ww) := by grind
    omega
  by_cases hz : S = 0
  · rw [hz]; have := sq_nn t; omega
  · exact Int.le_of_mul_le_mul_right q7 (Int.mul_pos (by omega) (by omega))
/-- A product of two near shares. -/
theorem near_prod {a c x y n s1 s2 : Int} (hc : 1 ≤ c) (h1 : 0 ≤ s1) (h2 : 0 ≤ s2) (hx : 0 ≤ x) (hy : 0 ≤ y) (hn : 0 ≤ n) (h : NearQ a x n s1) (k : NearQ c y n s2) : ∃ e, 0 ≤ e ∧ (2 * a - 1) * (2 * c - 1) ≤ e ∧ e * e * (s1 * s2) ≤ 4 * n * n * (x * y) * (4 * n * n * (x * y)) := by
  obtain ⟨a0, a1, _⟩ := h
  obtain ⟨c0, c1, _⟩ := k
  by_cases ha : a = 0
  · exact ⟨0, by omega, by rw [ha]; omega, by have := sq_nn (4 * n * n * (x * y)); simp only [Int.zero_mul]; exact this⟩
  · have a1 := a1.resolve_left ha
    have c1 := c1.resolve_left (by omega)
    refine ⟨(2 * a - 1) * (2 * c - 1), Int.mul_nonneg (by omega) (by omega), Int.le_refl _, ?_⟩
    have k1 := Int.mul_le_mul a1 c1 (Int.mul_nonneg (sq_nn _) h2) (sq_nn _)
    have e1 : (2 * a - 1) * (2 * c - 1) * ((2 * a - 1) * (2 * c - 1)) * (s1 * s2) = (2 * a - 1) * (2 * a - 1) * s1 * ((2 * c - 1) * (2 * c - 1) * s2) := by grind
    have e2 : 4 * n * n * (x * y) * (4 * n * n * (x * y)) = 2 * x * n * (2 * x * n) * (2 * y * n * (2 * y * n)) := by grind
    omega
/-- Two corners that follow one another are far enough apart for the foot of the middle to lie between them. -/
theorem foot_in {n m j a b c d s1 s2 G : Int} (hm : 2 ≤ m) (hj : 0 ≤ j) (hjm : j < m) (hn : 384 * ((m - 1) * (m - 1)) < n) (hs1 : 1 ≤ s1) (hs2 : 1 ≤ s2) (hG : G = m * m + j * (j + 1)) (hcr : G * G + m * m = s1 * s2) (hc : 1 ≤ c) (hd : 1 ≤ d)
    (ha2 : a ≤ n) (hb2 : b ≤ n) (hc2 : c ≤ n) (hd2 : d ≤ n) (NA : NearQ a m n s1) (NB : NearQ b j n s1) (NC : NearQ c m n s2) (ND : NearQ d (j + 1) n s2) : a * c + b * d ≤ (n - 1) * (n - 1) := by
  rcases Int.lt_or_le ((n - 1) * (n - 1)) (a * c + b * d) with hneg | h
  case inr => exact h
  exfalso
  have hm1 : 1 * 1 ≤ (m - 1) * (m - 1) := sq_mono (by omega) (by omega)
  obtain ⟨e1, p1, p2, p3⟩ := near_prod hc (by omega) (by omega) (by omega) (by omega) (by omega) NA NC
  obtain ⟨e2, r1, r2, r3⟩ := near_prod hd (by omega) (by omega) hj (by omega) (by omega) NB ND
  have hnn : 0 ≤ 4 * n * n := Int.mul_nonneg (by omega) (by omega)
  have hjj : 0 ≤ j * (j + 1) := Int.mul_nonneg hj (by omega)
  have hmm := sq_nn m
  have t1 := tri_up p1 r1 (Int.mul_nonneg hnn hmm) (Int.mul_nonneg hnn hjj) (Int.mul_nonneg (by omega) (by omega)) p3 r3
  have eG : 4 * n * n * (m * m) + 4 * n * n * (j * (j + 1)) = 4 * n * n * G := by rw [hG]; grind
  rw [eG, ← hcr] at t1
  have hE : 4 * n * (n - 4) ≤ e1 + e2 := by
    have k1 : (2 * a - 1) * (2 * c - 1) + (2 * b - 1) * (2 * d - 1) = 4 * (a * c + b * d) - 2 * (a + b + c + d) + 2 := by grind
    have k2 : (n - 1) * (n - 1) = n * n - 2 * n + 1 := by grind
    have k3 : 4 * n * (n - 4) = 4 * (n * n) - 16 * n := by grind
    omega
  have hE0 : 0 ≤ 4 * n * (n - 4) := Int.mul_nonneg (by omega) (by omega)
  have t2 : 4 * n * (n - 4) * (4 * n * (n - 4)) ≤ (e1 + e2) * (e1 + e2) := sq_mono hE0 hE
  have hGG := sq_nn G
  have t3 : 4 * n * (n - 4) * (4 * n * (n - 4)) * (G * G + m * m) ≤ 4 * n * n * G * (4 * n * n * G) := Int.le_trans (Int.mul_le_mul_of_nonneg_right t2 (by omega)) t1
  have t4 : (n - 4) * (n - 4) * (G * G + m * m) ≤ n * n * (G * G) := by
    have k1 : 4 * n * (n - 4) * (4 * n * (n - 4)) * (G * G + m * m) = 16 * (n * n) * ((n - 4) * (n - 4) * (G * G + m * m)) := by grind
    have k2 : 4 * n * n * G * (4 * n * n * G) = 16 * (n * n) * (n * n * (G * G)) := by grind
    rw [k1, k2] at t3
    exact Int.le_of_mul_le_mul_left t3 (by have := Int.mul_pos (show 0 < n by omega) (show 0 < n by omega); omega)
  -- G is at most twice m m
  have hG2 : G ≤ 2 * (m * m) := by
    have : j * (j + 1) ≤ m * m := Int.mul_le_mul (by omega) (by omega) (by omega) (by omega)
    omega
  have hGG2 : G * G ≤ 4 * (m * m) * (m * m) := by
    have : G * G ≤ 2 * (m * m) * (2 * (m * m)) := sq_mono (by omega) hG2
    have e : 2 * (m * m) * (2 * (m * m)) = 4 * (m * m) * (m * m) := by grind
    omega
  have t5 : (n - 4) * (n - 4) * (m * m) ≤ 8 * n * (G * G) := by
    have k1 : (n - 4) * (n - 4) * (G * G + m * m) = n * n * (G * G) - 8 * n * (G * G) + 16 * (G * G) + (n - 4) * (n - 4) * (m * m) := by grind
    omega
  have t6 : 8 * n * (G * G) ≤ 8 * n * (4 * (m * m) * (m * m)) := Int.mul_le_mul_of_nonneg_left hGG2 (by omega)
  have t7 : (n - 4) * (n - 4) ≤ 32 * n * (m * m) := by
    have k1 : 8 * n * (4 * (m * m) * (m * m)) = 32 * n * (m * m) * (m * m) := by grind
    rw [k1] at t6
    exact Int.le_of_mul_le_mul_right (Int.le_trans t5 t6) (by have := Int.mul_pos (show 0 < m by omega) (show 0 < m by omega); omega)
  have hm4 : m * m ≤ 4 * ((m - 1) * (m - 1)) := by
    have k1 : m * m ≤ 2 * (m - 1) * (2 * (m - 1)) := sq_mono (by omega) (by omega)
    have e : 2 * (m - 1) * (2 * (m - 1)) = 4 * ((m - 1) * (m - 1)) := by grind
    omega
  have t8 : n * (96 * (m * m)) ≤ n * n := Int.mul_le_mul_of_nonneg_left (by omega) (by omega)
  have k1 : n * (96 * (m * m)) = 96 * (n * (m * m)) := by grind
  have k2 : 32 * n * (m * m) = 32 * (n * (m * m)) := by grind
  have k3 : (n - 4) * (n - 4) = n * n - 8 * n + 16 := by grind
  have k4 : 384 * n ≤ n * n := Int.mul_le_mul_of_nonneg_right (by omega) (by omega)
  omega
end
section

def PairOk (n : Int) (p q : Pq) : Prop := 0 < p.x * q.y - p.y * q.x ∧ (50 < n → (n - 50) * (n - 50) * ((q.x - p.x) * (q.x - p.x) + (q.y - p.y) * (q.y - p.y)) ≤ (p.x * q.y - p.y * q.x) * (p.x * q.y - p.y * q.x))
theorem PairOk.ne {n : Int} {p q : Pq} (h : PairOk n p q) : (p.x == q.x && p.y == q.y) = false := by
  rw [Bool.and_eq_false_iff]
  by_cases hx : p.x = q.x
  · refine .inr ?_
    simp only [beq_eq_false_iff_ne]
    intro hy
    have := h.1
    rw [hx, hy, Int.mul_comm] at this
    omega
  · exact .inl (by simpa using hx)
theorem near_pos {p n s : Int} (hp : 0 ≤ p) (hs : 1 ≤ s) : NearQ (shrI p n s) p n s := by
  have h := shr_near (p := p) (r := n) hs
  rwa [if_neg (by omega)] at h
theorem pair_pos {n m j : Int} (hm : 1 ≤ m) (hj : 0 ≤ j) (hjm : j < m) (hn1 : 1 ≤ n) (hn : 384 * ((m - 1) * (m - 1)) < n) (hn2 : n ≤ 384 * (m * m)) : PairOk n ⟨alX m j n, alY m j n⟩ ⟨alX m (j + 1) n, alY m (j + 1) n⟩ := by
  unfold PairOk alX alY
  dsimp only
  have hmm : 1 * 1 ≤ m * m := sq_mono (by omega) hm
  have hjj := sq_nn j
  have hj1 := sq_nn (j + 1)
  obtain ⟨s1, e1⟩ : ∃ s, s = m * m + j * j := ⟨_, rfl⟩
  obtain ⟨s2, e2⟩ : ∃ s, s = m * m + (j + 1) * (j + 1) := ⟨_, rfl⟩
  rw [← e1, ← e2]
  have hs1 : 1 ≤ s1 := by omega
  have hs2 : 1 ≤ s2 := by omega
  have hjm2 : j * j ≤ m * m := sq_mono hj (by omega)
  have hjm3 : (j + 1) * (j + 1) ≤ m * m := sq_mono (by omega) (by omega)
  have hjm4 : j * j ≤ (j + 1) * (j + 1) := sq_mono hj (by omega)
  have NA := near_pos (p := m) (n := n) (by omega) hs1
  have NB := near_pos (p := j) (n := n) hj hs1
  have NC := near_pos (p := m) (n := n) (by omega) hs2
  have ND := near_pos (p := j + 1) (n := n) (by omega) hs2
  have La := shr_in (p := m) (r := n) (sq := s1) (by omega) hs1 (by omega)
  have Lb := shr_in (p := j) (r := n) (sq := s1) (by omega) hs1 (by omega)
  have Lc := shr_in (p := m) (r := n) (sq := s2) (by omega) hs2 (by omega)
  have Ld := shr_in (p := j + 1) (r := n) (sq := s2) (by omega) hs2 (by omega)
  have LP := (shr_len (p := m) (d := j) (r := n) hn1 e1 hs1).1
  have LQ := (shr_len (p := m) (d := j + 1) (r := n) hn1 e2 hs2).1
  have hb0 : j = 0 → shrI j n s1 = 0 := fun h => by rw [h]; exact shr_zero
  have hcd : j + 1 = m → shrI (j + 1) n s2 = shrI m n s2 := fun h => by rw [h]
  generalize shrI m n s1 = a at *
  generalize shrI j n s1 = b at *
  generalize shrI m n s2 = c at *
  generalize shrI (j + 1) n s2 = d at *
  have hnn : 1 * 1 ≤ n * n := sq_mono (by omega) hn1
  have hnm : m ≤ n := by
    by_cases h : m = 1
    · omega
    · have : 1 * (m - 1) ≤ (m - 1) * (m - 1) := Int.mul_le_mul_of_nonneg_right (by omega) (by omega)
      omega
  have hnm2 : m * m ≤ n * n := sq_mono (by omega) hnm
  have hmn4 : m * m ≤ n * n * (m * m) := by
    have : 1 * (m * m) ≤ n * n * (m * m) := Int.mul_le_mul_of_nonneg_right (by omega) (by omega)
    omega
  have hdn4 : n * n ≤ n * n * ((j + 1) * (j + 1)) := by
    have h1 : 1 * 1 ≤ (j + 1) * (j + 1) := sq_mono (by omega) (by omega)
    have : n * n * 1 ≤ n * n * ((j + 1) * (j + 1)) := Int.mul_le_mul_of_nonneg_left (by omega) (by omega)
    omega
  have k1 : 2 * m * n * (2 * m * n) = 4 * (n * n * (m * m)) := by grind
  have k2 : 2 * (j + 1) * n * (2 * (j + 1) * n) = 4 * (n * n * ((j + 1) * (j + 1))) := by grind
  have ha1 : 1 ≤ a := by
    rcases Int.lt_or_le 0 a with h | h
    · omega
    · have : a = 0 := by have := NA.1; omega
      have := NA.2.2
      rw [k1, ‹a = 0›] at this
      omega
  have hc1 : 1 ≤ c := by
    rcases Int.lt_or_le 0 c with h | h
    · omega
    · have : c = 0 := by have := NC.1; omega
      have := NC.2.2
      rw [k1, ‹c = 0›] at this
      omega
  have hd1 : 1 ≤ d := by
    rcases Int.lt_or_le 0 d with h | h
    · omega
    · have : d = 0 := by have := ND.1; omega
      have := ND.2.2
      rw [k2, ‹d = 0›] at this
      omega
  have hb1 : 0 ≤ b := NB.1
  -- one goes in, the other one out
  have hac : c ≤ a := near_mono hs2 hs1 NC NA (Int.mul_le_mul_of_nonneg_left (by omega) (by omega))
  have hbd : b ≤ d := near_mono hs1 hs2 NB ND (by
    have f1 : j * j * s2 = j * j * (m * m) + j * j * ((j + 1) * (j + 1)) := by rw [e2]; grind
    have f2 : (j + 1) * (j + 1) * s1 = (j + 1) * (j + 1) * (m * m) + j * j * ((j + 1) * (j + 1)) := by rw [e1]; grind
    have := Int.mul_le_mul_of_nonneg_right hjm4 (show 0 ≤ m * m by omega)
    omega)
  -- the foot lies between
  have hf : a * c + b * d ≤ a * a + b * b ∧ a * c + b * d ≤ c * c + d * d ∧ 0 < a * d - b * c := by
    have hab := Int.mul_pos (show 0 < a by omega) (show 0 < d by omega)
    by_cases h1 : m = 1
    · have hj0 : j = 0 := by omega
      have hb := hb0 hj0
      have hd := hcd (by omega)
      subst hd hb
      have hkk : 1 * 1 ≤ d * d := sq_mono (by omega) hd1
      have hda : a * d ≤ a * a := Int.mul_le_mul_of_nonneg_left hac (by omega)
      have hk2 : a ≤ 2 * d := by
        have u0 : s1 = 1 := by rw [e1, h1, hj0]; rfl
        have u1 : s2 = 2 := by rw [e2, h1, hj0]; rfl
        have := NA.2.1.resolve_left (by omega)
        have := NC.2.2
        rw [k1] at *
        rw [u0] at *
        rw [u1] at *
        rw [h1] at *
        have k3 : (2 * a - 1) * (2 * a - 1) ≤ 2 * n * (2 * n) := by
          have : 2 * n * (2 * n) = 4 * (n * n) := by grind
          omega
        have k4 := le_sq (by omega) k3
        rcases Int.lt_or_le (2 * d) a with h | h
        · exfalso
          have k5 : (2 * d + 1) * (2 * d + 1) ≤ n * n := sq_mono (by omega) (by omega)
          omega
        · exact h
      have hdd : a * d ≤ 2 * d * d := Int.mul_le_mul_of_nonneg_right hk2 (by omega)
      have : 2 * d * d = 2 * (d * d) := by grind
      simp only [Int.zero_mul]
      omega
    · have hfoot := foot_in (G := m * m + j * (j + 1)) (show 2 ≤ m by omega) hj hjm hn hs1 hs2 rfl (by rw [e1, e2]; grind) hc1 hd1 La.2 Lb.2 Lc.2 Ld.2 NA NB NC ND
      refine ⟨by omega, by omega, ?_⟩
      have e : a * d - b * c = a * (d - b) + b * (a - c) := by grind
      have g1 : 0 ≤ a * (d - b) := Int.mul_nonneg (by omega) (by omega)
      have g2 : 0 ≤ b * (a - c) := Int.mul_nonneg hb1 (by omega)
      rw [e]
      by_cases hdb : d = b
      · by_cases hca : c = a
        · exfalso
          rw [hdb, hca] at hfoot
          omega
        · have := Int.mul_pos (show 0 < b by omega) (show 0 < a - c by omega)
          omega
      · have := Int.mul_pos (show 0 < a by omega) (show 0 < d - b by omega)
        omega
  obtain ⟨hl1, hl2, ht⟩ := hf
  refine ⟨ht, fun h50 => ?_⟩
  have w12 : (2 * m + (2 * j + 1)) * (2 * m + (2 * j + 1)) ≤ 16 * s1 := by
    have f1 : 3 * (4 * (m * m) + 4 * (j * j) + 1) = (2 * m + (2 * j + 1)) * (2 * m + (2 * j + 1)) + ((2 * m - 2 * j) * (2 * m - 2 * j) + (2 * m - 1) * (2 * m - 1) + (2 * j - 1) * (2 * j - 1)) := by grind
    have g1 := sq_nn (2 * m - 2 * j)
    have g2 := sq_nn (2 * m - 1)
    have g3 := sq_nn (2 * j - 1)
    omega
  have hww : 1 ≤ 2 * m * (2 * m) + (2 * j + 1) * (2 * j + 1) := by
    have := Int.mul_pos (show 0 < 2 * m by omega) (show 0 < 2 * m by omega)
    have := sq_nn (2 * j + 1)
    omega
  have dt1 : m * (2 * m) + j * (2 * j + 1) = 2 * s1 + j := by rw [e1]; grind
  have dt2 : m * (2 * m) + (j + 1) * (2 * j + 1) = 2 * s2 - (j + 1) := by rw [e2]; grind
  have hX := far_one (n := n) (m := m) (x := m) (y := j) (w1 := 2 * m) (w2 := 2 * j + 1) (s := s1) (dt := 2 * s1 + j) (ww := 2 * m * (2 * m) + (2 * j + 1) * (2 * j + 1)) (a := a) (b := b) (by omega) hj (by omega) (by omega) h50 (by omega) dt1.symm (by rw [e1]; grind) (by omega) (by omega) w12 (by omega) (by omega) hb1 (Int.le_of_lt NA.2.2) (Int.le_of_lt NB.2.2)
  have hjk : (j + 1) * 1 ≤ (j + 1) * (j + 1) := Int.mul_le_mul_of_nonneg_left (by omega) (by omega)
  have hY := far_one (n := n) (m := m) (x := m) (y := j + 1) (w1 := 2 * m) (w2 := 2 * j + 1) (s := s2) (dt := 2 * s2 - (j + 1)) (ww := 2 * m * (2 * m) + (2 * j + 1) * (2 * j + 1)) (a := c) (b := d) (by omega) (by omega) (by omega) (by omega) h50 (by omega) dt2.symm (by rw [e2]; grind) (by omega) (by omega) (by omega) (by omega) (by omega) (by omega) (Int.le_of_lt NC.2.2) (Int.le_of_lt ND.2.2)
  exact foot_far (by omega) rfl hww rfl rfl hl1 hl2 (Int.add_nonneg (Int.mul_nonneg (by omega) (by omega)) (Int.mul_nonneg hb1 (by omega))) (Int.add_nonneg (Int.mul_nonneg (by omega) (by omega)) (Int.mul_nonneg (by omega) (by omega))) hX hY
/-- Mirrored. -/
theorem pair_mirror {n : Int} {a b c d : Int} (h : PairOk n ⟨c, -d⟩ ⟨a, -b⟩) : PairOk n ⟨a, b⟩ ⟨c, d⟩ := by
  unfold PairOk at *
  dsimp only at *
  have e1 : c * -b - -d * a = a * d - b * c := by grind
  have e2 : (a - c) * (a - c) + (-b - -d) * (-b - -d) = (c - a) * (c - a) + (d - b) * (d - b) := by grind
  rwa [e1, e2] at h
theorem al_mirror {x y n : Int} : alX x (-y) n = alX x y n ∧ alY x (-y) n = -alY x y n := by
  unfold alX alY
  have e : x * x + -y * -y = x * x + y * y := by grind
  rw [e]
  exact ⟨rfl, shr_neg⟩
theorem pair_side {n m j : Int} (hm : 1 ≤ m) (hj : -m ≤ j) (hjm : j < m) (hn1 : 1 ≤ n) (hn : 384 * ((m - 1) * (m - 1)) < n) (hn2 : n ≤ 384 * (m * m)) : PairOk n ⟨alX m j n, alY m j n⟩ ⟨alX m (j + 1) n, alY m (j + 1) n⟩ := by
  rcases Int.lt_or_le j 0 with h | h
  · have h1 := pair_pos (j := -(j + 1)) hm (by omega) (by omega) hn1 hn hn2
    rw [show -(j + 1) + 1 = -j by omega] at h1
    obtain ⟨m1, m2⟩ := al_mirror (x := m) (y := j) (n := n)
    obtain ⟨m3, m4⟩ := al_mirror (x := m) (y := j + 1) (n := n)
    rw [m1, m2, m3, m4] at h1
    exact pair_mirror h1
  · exact pair_pos hm h hjm hn1 hn hn2
/-- Turned. -/
theorem pair_turn {n : Int} {a b c d : Int} (h : PairOk n ⟨a, b⟩ ⟨c, d⟩) : PairOk n ⟨-b, a⟩ ⟨-d, c⟩ := by
  unfold PairOk at *
  dsimp only at *
  have e1 : -b * c - a * -d = a * d - b * c := by grind
  have e2 : (-d - -b) * (-d - -b) + (c - a) * (c - a) = (c - a) * (c - a) + (d - b) * (d - b) := by grind
  rwa [e1, e2]
theorem pair_qu {n x y u v : Int} (hn1 : 1 ≤ n) (hxy : ¬ (x = 0 ∧ y = 0)) (huv : ¬ (u = 0 ∧ v = 0)) (h : PairOk n ⟨alX x y n, alY x y n⟩ ⟨alX u v n, alY u v n⟩) : ∀ s, PairOk n ⟨alX (qu x y s).1 (qu x y s).2 n, alY (qu x y s).1 (qu x y s).2 n⟩ ⟨alX (qu u v s).1 (qu u v s).2 n, alY (qu u v s).1 (qu u v s).2 n⟩
  | 0 => h
  | s + 1 => by
    have ih := pair_qu hn1 hxy huv h s
    have f := al_facts (qu_nz x y hxy s) hn1
    have g := al_facts (qu_nz u v huv s) hn1
    simp only [qu]
    rw [f.1, f.2.1, g.1, g.2.1]
    exact pair_turn ih
end
section

theorem stpW_bd {r : Int} (hr : r ≤ 262144) : ∀ (f : Nat) (m : Int), 1 ≤ m → m ≤ 27 → 27 ≤ m + f → 384 * ((m - 1) * (m - 1)) < r → 384 * ((stpW r f m - 1) * (stpW r f m - 1)) < r ∧ r ≤ 384 * (stpW r f m * stpW r f m)
  | 0, m, h1, h2, h3, h4 => by
    obtain rfl : m = 27 := by omega
    exact ⟨h4, by unfold stpW; omega⟩
  | f + 1, m, h1, h2, h3, h4 => by
    unfold stpW
    have e : 384 * m * m = 384 * (m * m) := Int.mul_assoc _ _ _
    split
    · rename_i h
      have := stp_more hr h1 h2 h
      exact stpW_bd hr f (m + 1) (by omega) (by omega) (by omega) (by rw [show m + 1 - 1 = m by omega]; omega)
    · exact ⟨h4, by omega⟩
theorem stpI_bd {r : Int} (h : lenB r = true) : 384 * ((stpI r - 1) * (stpI r - 1)) < r ∧ r ≤ 384 * (stpI r * stpI r) := by
  obtain ⟨h1, h2⟩ := lenB_iff.1 h
  unfold stpI
  rw [h]
  exact stpW_bd h2 30 1 (by omega) (by omega) (by omega) (by omega)
/-- Corner number k, seen from the middle. -/
noncomputable def fD (r : Int) (m k : Nat) : Pq := ⟨alX (dirD m (k / (2 * m)) (k % (2 * m))).1 (dirD m (k / (2 * m)) (k % (2 * m))).2 r, alY (dirD m (k / (2 * m)) (k % (2 * m))).1 (dirD m (k / (2 * m)) (k % (2 * m))).2 r⟩
def mvP (cx cy : Int) (p : Pq) : Pq := ⟨cx + p.x, cy + p.y⟩
theorem idx_at {m s i : Nat} (hi : i < 2 * m) : (s * (2 * m) + i) / (2 * m) = s ∧ (s * (2 * m) + i) % (2 * m) = i := by
  constructor
  · rw [Nat.mul_comm, Nat.mul_add_div (by omega), Nat.div_eq_of_lt hi]; rfl
  · rw [Nat.mul_comm, Nat.mul_add_mod, Nat.mod_eq_of_lt hi]
theorem fD_at (r : Int) {m s i : Nat} (hi : i < 2 * m) : fD r m (s * (2 * m) + i) = ⟨alX (qu (m : Int) ((i : Int) - m) s).1 (qu (m : Int) ((i : Int) - m) s).2 r, alY (qu (m : Int) ((i : Int) - m) s).1 (qu (m : Int) ((i : Int) - m) s).2 r⟩ := by
  obtain ⟨h1, h2⟩ := idx_at (s := s) hi
  unfold fD dirD
  rw [h1, h2]
theorem qu_next (m : Int) : ∀ s, qu m (-m) (s + 1) = qu m m s
  | 0 => by simp [qu]
  | s + 1 => by
    have ih := qu_next m s
    rw [qu, ih]; rfl
theorem fD_next {r : Int} {m : Nat} (hm : 1 ≤ m) (h1 : 1 ≤ r) (h2 : 384 * (((m : Int) - 1) * ((m : Int) - 1)) < r) (h3 : r ≤ 384 * ((m : Int) * m)) (k : Nat) : PairOk r (fD r m k) (fD r m (k + 1)) := by
  have hk : k = k / (2 * m) * (2 * m) + k % (2 * m) := by rw [Nat.mul_comm]; exact (Nat.div_add_mod k (2 * m)).symm
  have hi : k % (2 * m) < 2 * m := Nat.mod_lt _ (by omega)
  generalize k / (2 * m) = s at hk
  generalize k % (2 * m) = i at hk hi
  subst hk
  have hp := pair_qu (n := r) (x := m) (y := (i : Int) - m) (u := m) (v := (i : Int) - m + 1) h1 (by omega) (by omega) (pair_side (by omega) (by omega) (by omega) h1 h2 h3) s
  rw [fD_at r hi]
  by_cases hl : i + 1 < 2 * m
  · rw [show s * (2 * m) + i + 1 = s * (2 * m) + (i + 1) by omega, fD_at r hl, show ((i + 1 : Nat) : Int) - m = (i : Int) - m + 1 by omega]
    exact hp
  · have e : s * (2 * m) + i + 1 = (s + 1) * (2 * m) + 0 := by have h := Nat.succ_mul s (2 * m); rw [Nat.succ_eq_add_one] at h; generalize s * (2 * m) = u at *; generalize (s + 1) * (2 * m) = v at *; omega
    rw [e, fD_at r (show 0 < 2 * m by omega), show ((0 : Nat) : Int) - m = -(m : Int) by omega, qu_next]
    rw [show (i : Int) - m + 1 = m by omega] at hp
    exact hp
theorem fD_round (r : Int) {m : Nat} (hm : 1 ≤ m) : fD r m (8 * m) = fD r m 0 := by
  have e1 : 8 * m = 4 * (2 * m) + 0 := by omega
  have e2 : 0 = 0 * (2 * m) + 0 := by omega
  rw [e1, fD_at r (show 0 < 2 * m by omega)]
  conv => rhs; rw [e2, fD_at r (show 0 < 2 * m by omega)]
  simp [qu]
theorem fD_ring {r : Int} {m : Nat} (hm : 1 ≤ m) (h1 : 1 ≤ r) (k : Nat) : (r - 1) * (r - 1) < (fD r m k).x * (fD r m k).x + (fD r m k).y * (fD r m k).y ∧ (fD r m k).x * (fD r m k).x + (fD r m k).y * (fD r m k).y < (r + 1) * (r + 1) := by
  have h := al_facts (qu_nz (m : Int) (((k % (2 * m) : Nat) : Int) - m) (by omega) (k / (2 * m))) h1
  exact ⟨h.2.2.2.2.1, h.2.2.2.2.2.1⟩
theorem fD_in {r : Int} {m : Nat} (hm : 1 ≤ m) (h1 : 1 ≤ r) (k : Nat) : (-r ≤ (fD r m k).x ∧ (fD r m k).x ≤ r) ∧ (-r ≤ (fD r m k).y ∧ (fD r m k).y ≤ r) := al_in (qu_nz (m : Int) (((k % (2 * m) : Nat) : Int) - m) (by omega) (k / (2 * m))) h1
/-- The list of the first k corners. -/
noncomputable def fL (cx cy r : Int) (m k : Nat) : List Pq := (List.range k).map fun k => mvP cx cy (fD r m k)
theorem fL_len (cx cy r : Int) (m k : Nat) : (fL cx cy r m k).length = k := by unfold fL; simp
theorem fL_get (cx cy r : Int) (m : Nat) {k i : Nat} (h : i < k) : (fL cx cy r m k)[i]? = some (mvP cx cy (fD r m i)) := by
  unfold fL
  rw [List.getElem?_map, List.getElem?_range h]; rfl
theorem mv_eq {cx cy : Int} {p q : Pq} : ((mvP cx cy p).x == (mvP cx cy q).x && (mvP cx cy p).y == (mvP cx cy q).y) = (p.x == q.x && p.y == q.y) := by
  unfold mvP
  dsimp only
  congr 1 <;> (rw [Bool.eq_iff_iff]; simp)
theorem fL_add {r : Int} {m : Nat} (hm : 1 ≤ m) (h1 : 1 ≤ r) (h2 : 384 * (((m : Int) - 1) * ((m : Int) - 1)) < r) (h3 : r ≤ 384 * ((m : Int) * m)) (cx cy : Int) (k : Nat) : addP (fL cx cy r m k) (mvP cx cy (fD r m k)) = fL cx cy r m (k + 1) := by
  have e : fL cx cy r m (k + 1) = fL cx cy r m k ++ [mvP cx cy (fD r m k)] := by unfold fL; rw [List.range_succ, List.map_append]; rfl
  have hl : (fL cx cy r m k).getLast? = (fL cx cy r m k)[k - 1]? := by rw [List.getLast?_eq_getElem?, fL_len]
  rw [e]
  unfold addP
  cases k with
  | zero => rfl
  | succ k =>
    rw [hl, fL_get _ _ _ _ (by omega)]
    dsimp only
    rw [mv_eq, Nat.add_sub_cancel, (fD_next hm h1 h2 h3 k).ne]
    rfl
theorem side_fL {r : Int} {m : Nat} (hm : 1 ≤ m) (h1 : 1 ≤ r) (h2 : 384 * (((m : Int) - 1) * ((m : Int) - 1)) < r) (h3 : r ≤ 384 * ((m : Int) * m)) (cx cy : Int) (s : Nat) : ∀ i, i ≤ 2 * m → sideD cx cy r m s (fL cx cy r m (s * (2 * m))) i = fL cx cy r m (s * (2 * m) + i)
  | 0, _ => rfl
  | i + 1, hi => by
    rw [sideD, side_fL hm h1 h2 h3 cx cy s i (by omega), ← Nat.add_assoc, ← fL_add hm h1 h2 h3]
    congr 1
    obtain ⟨k1, k2⟩ := idx_at (s := s) (show i < 2 * m by omega)
    unfold ptD mvP fD
    rw [k1, k2]
theorem raw_fL {r : Int} {m : Nat} (hm : 1 ≤ m) (h1 : 1 ≤ r) (h2 : 384 * (((m : Int) - 1) * ((m : Int) - 1)) < r) (h3 : r ≤ 384 * ((m : Int) * m)) (cx cy : Int) : ∀ s, rawD cx cy r m s = fL cx cy r m (s * (2 * m))
  | 0 => by rw [Nat.zero_mul]; rfl
  | s + 1 => by
    rw [rawD, raw_fL hm h1 h2 h3 cx cy s, side_fL hm h1 h2 h3 cx cy s _ (Nat.le_refl _), ← Nat.succ_mul s (2 * m)]
/-- **A round's corners.** -/
theorem disc_fL {r : Int} (h : lenB r = true) : ∃ m : Nat, 1 ≤ m ∧ m ≤ 27 ∧ (∀ cx cy, discL cx cy r = fL cx cy r m (8 * m)) ∧ ∀ k, k < 8 * m → PairOk r (fD r m k) (fD r m ((k + 1) % (8 * m))) := by
  obtain ⟨r0, r1⟩ := lenB_iff.1 h
  obtain ⟨m1, m2⟩ := stpI_in h
  obtain ⟨b1, b2⟩ := stpI_bd h
  obtain ⟨m, hm⟩ : ∃ m : Nat, stpI r = (m : Int) := ⟨(stpI r).toNat, by omega⟩
  rw [hm] at m1 m2 b1 b2
  have hm1 : 1 ≤ m := by omega
  refine ⟨m, hm1, by omega, fun cx cy => ?_, fun k hk => ?_⟩
  · unfold discL
    rw [hm, Int.toNat_natCast, raw_fL hm1 r0 b1 b2, show 4 * (2 * m) = 8 * m by omega]
    have hne := (fD_next hm1 r0 b1 b2 (8 * m - 1)).ne
    rw [show 8 * m - 1 + 1 = 8 * m by omega, fD_round r hm1] at hne
    have hc : closeB (fL cx cy r m (8 * m)) = false := by
      rw [closeB_long (a := mvP cx cy (fD r m 0)) (b := mvP cx cy (fD r m (8 * m - 1))) (by rw [fL_len]; omega) (fL_get _ _ _ _ (by omega)) (by rw [fL_len]; exact fL_get _ _ _ _ (by omega)), mv_eq]
      exact hne
    unfold closeD
    rw [hc]; rfl
  · have hp := fD_next hm1 r0 b1 b2 k
    by_cases hl : k + 1 < 8 * m
    · rw [Nat.mod_eq_of_lt hl]; exact hp
    · rw [show k + 1 = 8 * m by omega, Nat.mod_self]
      rw [show k + 1 = 8 * m by omega, fD_round r hm1] at hp
      exact hp
end
section
open Go.RowKit Go.ChangeShapes Go.WideShapes Go.Deep

/-- What a round of the law needs. -/
theorem round_nums {n px py qx qy : Int} (hn : 1 ≤ n ∧ n ≤ 262144) (hp : (-n ≤ px ∧ px ≤ n) ∧ (-n ≤ py ∧ py ≤ n)) (hq : (-n ≤ qx ∧ qx ≤ n) ∧ (-n ≤ qy ∧ qy ≤ n)) (h : PairOk n ⟨px, py⟩ ⟨qx, qy⟩) :
    (1 ≤ crossI px py qx qy ∧ crossI px py qx qy ≤ 137438953472) ∧ (0 ≤ (qx - px) * (qx - px) + (qy - py) * (qy - py) ∧ (qx - px) * (qx - px) + (qy - py) * (qy - py) ≤ 549755813888) ∧ (50 < n → (0 ≤ (n - 50) * (n - 50) ∧ (n - 50) * (n - 50) ≤ 68719476736) ∧ In128 (crossI px py qx qy * crossI px py qx qy) ∧ In128 ((n - 50) * (n - 50) * ((qx - px) * (qx - px) + (qy - py) * (qy - py))) ∧
      decide (cmpI (crossI px py qx qy * crossI px py qx qy) ((n - 50) * (n - 50) * ((qx - px) * (qx - px) + (qy - py) * (qy - py))) < 0) = false) := by
  obtain ⟨h1, h2⟩ := h
  dsimp only at h1 h2
  have mul_in : ∀ a b : Int, -262144 ≤ a → a ≤ 262144 → -262144 ≤ b → b ≤ 262144 → -68719476736 ≤ a * b ∧ a * b ≤ 68719476736 := fun a b a0 a1 b0 b1 => by
    have k1 := Int.mul_le_mul (show a + 262144 ≤ 524288 by omega) (show b + 262144 ≤ 524288 by omega) (by omega) (by omega)
    have k2 := Int.mul_nonneg (show 0 ≤ a + 262144 by omega) (show 0 ≤ b + 262144 by omega)
    have k3 := Int.mul_nonneg (show 0 ≤ 262144 - a by omega) (show 0 ≤ 262144 - b by omega)
    have k4 := Int.mul_nonneg (show 0 ≤ 262144 - a by omega) (show 0 ≤ b + 262144 by omega)
    have k5 := Int.mul_nonneg (show 0 ≤ a + 262144 by omega) (show 0 ≤ 262144 - b by omega)
    have e2 : (a + 262144) * (b + 262144) = a * b + 262144 * a + 262144 * b + 68719476736 := by grind
    have e3 : (262144 - a) * (262144 - b) = a * b - 262144 * a - 262144 * b + 68719476736 := by grind
    have e4 : (262144 - a) * (b + 262144) = - (a * b) - 262144 * a + 262144 * b + 68719476736 := by grind
    have e5 : (a + 262144) * (262144 - b) = - (a * b) + 262144 * a - 262144 * b + 68719476736 := by grind
    omega
  have a1 := mul_in px qy (by omega) (by omega) (by omega) (by omega)
  have a2 := mul_in py qx (by omega) (by omega) (by omega) (by omega)
  have s1 := sq_nn (qx - px)
  have s2 := sq_nn (qy - py)
  have sq_up : ∀ z : Int, -524288 ≤ z → z ≤ 524288 → z * z ≤ 274877906944 := fun z z0 z1 => by
    rcases Int.le_total 0 z with h | h
    · have := Int.mul_le_mul z1 z1 h (by omega)
      omega
    · have := Int.mul_le_mul (show -z ≤ 524288 by omega) (show -z ≤ 524288 by omega) (by omega) (by omega)
      have e : -z * -z = z * z := by grind
      omega
  have s3 := sq_up (qx - px) (by omega) (by omega)
  have s4 := sq_up (qy - py) (by omega) (by omega)
  unfold crossI
  generalize hT : px * qy - py * qx = t at *
  have ht : 1 ≤ t ∧ t ≤ 137438953472 := by omega
  generalize hS : (qx - px) * (qx - px) + (qy - py) * (qy - py) = S at *
  have hS0 : 0 ≤ S ∧ S ≤ 549755813888 := by omega
  refine ⟨ht, hS0, fun h50 => ?_⟩
  have h3 := h2 h50
  have n0 := sq_nn (n - 50)
  have n1 : (n - 50) * (n - 50) ≤ 262144 * 262144 := sq_mono (by omega) (by omega)
  generalize (n - 50) * (n - 50) = N at *
  have b1 : t * t ≤ 137438953472 * 137438953472 := sq_mono (by omega) (by omega)
  have b0 := sq_nn t
  have c1 : N * S ≤ 68719476736 * 549755813888 := Int.mul_le_mul (by omega) hS0.2 hS0.1 (by omega)
  have c0 := Int.mul_nonneg n0 hS0.1
  refine ⟨⟨n0, by omega⟩, by unfold In128; omega, by unfold In128; omega, ?_⟩
  unfold cmpI
  rw [if_neg (by omega)]
  split <;> rfl
set_option maxRecDepth 1000000 in
set_option maxHeartbeats 16000000 in
theorem walk_rounds (x0 y0 r0 : Int) (hx : -2147483648 ≤ x0 ∧ x0 ≤ 2147483647) (hy : -2147483648 ≤ y0 ∧ y0 ≤ 2147483647) (hr : 0 ≤ r0 ∧ r0 ≤ 4294967295) (w : World) :
    Calls Try.prog 12 #[.int .i32 x0, .int .i32 y0, .int .u32 r0] w fun e w' => e = .returned (.bool true) ∧ Since w w' := by
  have hR := fun w => law22_length r0 hr w
  have hri : 1 ≤ lenR r0 ∧ lenR r0 ≤ 262144 := by unfold lenR; omega
  have wx : IntKind.i64.wrap x0 = x0 := IntWalk.i64_in _ (by omega)
  have wy : IntKind.i64.wrap y0 = y0 := IntWalk.i64_in _ (by omega)
  have hci : (-2097152 ≤ x0 / 1024 ∧ x0 / 1024 ≤ 2097151) ∧ (-2097152 ≤ y0 / 1024 ∧ y0 / 1024 ≤ 2097151) := by omega
  have vx : IntKind.i64.wrap (x0 / 1024) = x0 / 1024 := IntWalk.i64_in _ (by omega)
  have vy : IntKind.i64.wrap (y0 / 1024) = y0 / 1024 := IntWalk.i64_in _ (by omega)
  generalize hcx : x0 / 1024 = cx at *
  generalize hcy : y0 / 1024 = cy at *
  generalize lenR r0 = n at *
  have hlen : lenB n = true := lenB_iff.2 hri
  have hD1 := fun w => ar_disc cx cy n (goodB_iff.2 (by omega)) hlen w
  have hD2 := fun w => ar_disc 0 0 n (goodB_iff.2 (by omega)) hlen w
  obtain ⟨m, hm1, hm2, hL, hP⟩ := disc_fL hlen
  have hin := fun k => fD_in (m := m) hm1 hri.1 k
  have hring := fun k => fD_ring (m := m) hm1 hri.1 k
  have hg1 := fun k (h : k < 8 * m) => fL_get cx cy n m h
  have hg2 := fun k (h : k < 8 * m) => fL_get 0 0 n m h
  have hl1 := fL_len cx cy n m (8 * m)
  have hl2 := fL_len 0 0 n m (8 * m)
  simp only [hL, hl1] at hD1
  simp only [hL, hl2] at hD2
  generalize fL cx cy n m (8 * m) = L1 at *
  generalize fL 0 0 n m (8 * m) = L2 at *
  obtain ⟨K, hK⟩ : ∃ K, K = 8 * m := ⟨_, rfl⟩
  rw [← hK] at hD1 hD2 hP hg1 hg2 hl1 hl2
  have hK1 : 4 ≤ K ∧ K ≤ 1000 := by omega
  generalize fD n m = f at *
  have d4 : decide ((K : Int) < 4) = false := by simp; omega
  have HP := Lib.hid hP; have HIN := Lib.hid hin; have HRING := Lib.hid hring; have HG1 := Lib.hid hg1; have HG2 := Lib.hid hg2; have HR := Lib.hid hR; have HD1 := Lib.hid hD1; have HD2 := Lib.hid hD2; have HI := Lib.hid hri; have HK := Lib.hid hK1; have HCI := Lib.hid hci; have HL1 := Lib.hid hl1; have HL2 := Lib.hid hl2
  clear hP hin hring hg1 hg2 hR hD1 hD2 hL hK hm1 hm2 hri hci hK1 hlen hx hy hr hl1 hl2
  unfold Pt at *
  have tok1 := True.intro
  go_enter Try.func12, Try.ntmps12
  go_upto_region 9 with (first | (go_at_call 31; refine (alive22 _).mono ?_; rintro e w1 ⟨rfl, hT1⟩) | (go_at_call 44; (with_reducible refine (HR.out _).mono ?_); rintro e w3 ⟨rfl, hS3⟩; have hT3 := hT1.trans hS3) | (go_at_call 37; have _t := tok1; (with_reducible refine (HD1.out _).mono ?_); rintro e w4 ⟨A1, k1, rfl, hR4, hS4⟩; clear tok1; have hP4 := (pt_new w3 _ rfl cx cy _).since hS4; have hT4 : Since w w4 := (by (repeat (first | with_reducible (exact Since.refl _) | with_reducible assumption | with_reducible (refine Since.drew ?_) | with_reducible (refine Since.drewN ?_ _) | with_reducible (refine Since.alloc ?_ _) | (with_reducible (refine Since.setCell ?_ ?_ _); rotate_left; focus (first | (simp; done) | (simp; omega) | omega)) | (with_reducible (refine Since.trans ?_ (by with_reducible assumption))))))) | (go_at_call 37; (with_reducible refine (HD2.out _).mono ?_); rintro e w5 ⟨A2, k2, rfl, hQ5, hS5⟩; have hP5 := hP4.since hS5; have hT5 := hT4.trans hS5; have hR5 := hR4.on hS5))
  clear hT1 hS3 hT3 hR4 hS4 hP4 hT4 hS5 _t HR HD1 HD2
  go_loopw [63] (fun y wr => ∃ k : Nat, k ≤ K ∧ y = .int .i64 (k : Int) ∧ Since w5 wr) (fun y _ => K - (intOf y).toNat)
  case atStart => exact ⟨0, by omega, rfl, Since.refl _⟩
  case round =>
    obtain ⟨k, hk, rfl, hSr⟩ := hrel
    by_cases hkK : k < K
    · have hkK' : (k : Int) < K := by omega
      obtain ⟨hK4, hK5⟩ := HK.out
      obtain ⟨b1, o1, rfl, hb1, hc1⟩ := hR5 (by rw [HL1.out]; omega)
      obtain ⟨b2, o2, rfl, hb2, hc2⟩ := hQ5 (by rw [HL2.out]; omega)
      obtain ⟨j, hj⟩ : ∃ j, j = (k + 1) % K := ⟨_, rfl⟩
      have hjK : j < K := by rw [hj]; exact Nat.mod_lt _ (by omega)
      have hpq := HP.out k hkK
      rw [← hj] at hpq
      have hrg := HRING.out k
      have hip := HIN.out k
      have hiq := HIN.out j
      have g1 := HG1.out k hkK
      have g2 := HG2.out k hkK
      have g3 := HG2.out j hjK
      have l0 := (hSr.1 _ _ hb1).trans (hc1 k _ g1 0 (by omega))
      have l1 := (hSr.1 _ _ hb1).trans (hc1 k _ g1 1 (by omega))
      have m0 := (hSr.1 _ _ hb2).trans (hc2 k _ g2 0 (by omega))
      have m1 := (hSr.1 _ _ hb2).trans (hc2 k _ g2 1 (by omega))
      have n0 := (hSr.1 _ _ hb2).trans (hc2 j _ g3 0 (by omega))
      have n1 := (hSr.1 _ _ hb2).trans (hc2 j _ g3 1 (by omega))
      simp only [ptL, mvP, List.getD_cons_succ, List.getD_cons_zero, Nat.add_zero, Int.zero_add] at l0 l1 m0 m1 n0 n1
      rw [Int.add_comm] at l0 l1
      generalize f k = p at *
      generalize f j = q at *
      obtain ⟨px, py⟩ := p
      obtain ⟨qx, qy⟩ := q
      dsimp only at *
      obtain ⟨hci1, hci2⟩ := HCI.out
      obtain ⟨nn0, nn1⟩ := HI.out
      have hM := fun w => rf_moreA px py cx cy (by unfold Near; omega) (by unfold Near; omega) (by unfold Near; omega) (by unfold Near; omega) w
      have hSQ := fun w => law22_square px py (by omega) (by omega) w
      have hSS := fun w => law22_square (qx - px) (qy - py) (by omega) (by omega) w
      have hC := fun w => rf_cross px py qx qy (by unfold Near; omega) (by unfold Near; omega) (by unfold Near; omega) (by unfold Near; omega) w
      obtain ⟨⟨t0, t1⟩, ⟨s0, s1⟩, h50⟩ := round_nums ⟨nn0, nn1⟩ hip hiq hpq
      have u1 : IntKind.i64.wrap (n - 1) = n - 1 := IntWalk.i64_in _ (by omega)
      have u2 : IntKind.i64.wrap (n + 1) = n + 1 := IntWalk.i64_in _ (by omega)
      have hm : (0 ≤ (n - 1) * (n - 1) ∧ (n - 1) * (n - 1) ≤ 262144 * 262144) ∧ (0 ≤ (n + 1) * (n + 1) ∧ (n + 1) * (n + 1) ≤ 262145 * 262145) := ⟨⟨sq_nn _, sq_mono (by omega) (by omega)⟩, ⟨sq_nn _, sq_mono (by omega) (by omega)⟩⟩
      have u3 : IntKind.i64.wrap ((n - 1) * (n - 1)) = (n - 1) * (n - 1) := IntWalk.i64_in _ (by omega)
      have u4 : IntKind.i64.wrap ((n + 1) * (n + 1)) = (n + 1) * (n + 1) := IntWalk.i64_in _ (by omega)
      have v1 : IntKind.i64.wrap (qx - px) = qx - px := IntWalk.i64_in _ (by omega)
      have v2 : IntKind.i64.wrap (qy - py) = qy - py := IntWalk.i64_in _ (by omega)
      have v3 : IntKind.i64.wrap (n - 50) = n - 50 := IntWalk.i64_in _ (by omega)
      have d1 : decide (px * px + py * py ≤ (n - 1) * (n - 1)) = false := by simp; omega
      have d2 : decide ((n + 1) * (n + 1) ≤ px * px + py * py) = false := by simp; omega
      have x0' : IntKind.i64.wrap ((k : Int) + 1) = (k : Int) + 1 := IntWalk.i64_in _ (by omega)
      have x1 : ((k : Int) + 1).tmod (K : Int) = (j : Int) := by
        rw [Int.tmod_eq_emod_of_nonneg (by omega), hj, Int.natCast_emod, Int.natCast_add]
        rfl
      have x2 : IntKind.i64.wrap (j : Int) = (j : Int) := IntWalk.i64_in _ (by omega)
      have x3 : (K : Int) ≠ 0 := by omega
      have x4 : (j : Int) < (K : Int) := by omega
      have x5 : (0 : Int) ≤ (j : Int) := by omega
      have x6 : (0 : Int) ≤ (k : Int) := by omega
      unfold Pt at hM hC
      generalize px + cx = X at *
      generalize py + cy = Y at *
      generalize px * px + py * py = SQ at *
      generalize crossI px py qx qy = T at *
      generalize (qx - px) * (qx - px) + (qy - py) * (qy - py) = SS at *
      have d3 : decide (T ≤ 0) = false := by simp; omega
      have HM := Lib.hid hM; have HSQ := Lib.hid hSQ; have HSS := Lib.hid hSS; have HC := Lib.hid hC; have H50 := Lib.hid h50; have HT := Lib.hid (show (1 ≤ T ∧ T ≤ 137438953472) ∧ (0 ≤ SS ∧ SS ≤ 549755813888) from ⟨⟨t0, t1⟩, s0, s1⟩)
      have hbr1 : b1 < wr.heap.size := hSr.2.2.1 _ hb1
      have hbr2 : b2 < wr.heap.size := hSr.2.2.1 _ hb2
      have hPc := hP5.since hSr
      clear hM hSQ hSS hC h50 t0 t1 s0 s1 hm hci1 hci2 hpq hrg hip hiq g1 g2 g3 hc1 hc2 hj hb1 hb2 hR5 hQ5 HIN HRING HP HG1 HG2 hP5
      go_upto_region 12 with fail
      refine wp_named fun wa hwa => ?_
      have hSw : Since wr wa := by subst hwa; exact ((Since.refl _).alloc _).alloc _
      have hPp : PtAt wa wr.heap.size px py := by subst hwa; exact (pt_new wr _ rfl px py _).alloc _
      have hPq : PtAt wa (wr.heap.size + 1) qx qy := by subst hwa; exact pt_new _ _ (by simp) qx qy _
      have hPc := hPc.since hSw
      have l0 := (hSw.1 _ _ hbr1).trans l0
      have l1 := (hSw.1 _ _ hbr1).trans l1
      have hTa := hSr.trans hSw
      have hbr1 : b1 < wa.heap.size := hSw.2.2.1 _ hbr1
      clear hwa m0 m1 n0 n1 hbr2
      go_cut [109] (fun v wx => v = .bool false ∧ Since wa wx)
      case first =>
        obtain ⟨a1, a2, a3⟩ := id hPp
        obtain ⟨e1, e2, e3⟩ := id hPc
        clear hPp hPq hPc hTa hSw
        (refine wp_named fun wr2 hwr2 => ?_; go_region_held3 (fun w' => (∀ b o, b < wr2.heap.size → w'.cell? ⟨b, o, none⟩ = wr2.cell? ⟨b, o, none⟩) ∧ (∀ b o, b < wr2.heap.size → w'.frozen? ⟨b, o, none⟩ = wr2.frozen? ⟨b, o, none⟩) ∧ (∀ k, k < wr2.heap.size → k < w'.heap.size) ∧ Below wr2.heap.size wr2 w') ((subst hwr2; (repeat (with_reducible (refine since_put ?_ ?_ _); rotate_left; focus (first | (simp; done) | (simp; omega) | omega))); first | with_reducible assumption | (refine since_step (by with_reducible assumption) ?_; first | with_reducible assumption | ((repeat (first | with_reducible (exact Since.refl _) | with_reducible assumption | with_reducible (refine Since.drew ?_) | with_reducible (refine Since.drewN ?_ _) | with_reducible (refine Since.alloc ?_ _) | (with_reducible (refine Since.setCell ?_ ?_ _); rotate_left; focus (first | (simp; done) | (simp; omega) | omega)))); done)) | (refine since_step (Since.refl _) ?_; first | with_reducible assumption | ((repeat (first | with_reducible (exact Since.refl _) | with_reducible assumption | with_reducible (refine Since.drew ?_) | with_reducible (refine Since.drewN ?_ _) | with_reducible (refine Since.alloc ?_ _) | (with_reducible (refine Since.setCell ?_ ?_ _); rotate_left; focus (first | (simp; done) | (simp; omega) | omega)) | (with_reducible (refine Since.trans ?_ (by with_reducible assumption))))); done)))) (first | (go_at_call 28; (with_reducible refine (HM.out _).mono ?_); rintro e w1 ⟨rfl, hS⟩; have hZ := hS.below.size; (try simp at hZ)) | (go_at_call 45; (with_reducible refine (HSQ.out _).mono ?_); rintro e w1 ⟨rfl, hS⟩; have hZ := hS.below.size; (try simp at hZ))); all_goals (rename_i hHeld; have hR2 : Since wr2 _ := hHeld; obtain ⟨hcR2, hfR2, hzR2, hbR2⟩ := hHeld; subst hwr2))
        all_goals (go_wp2_with fail)
        all_goals go_meet
        all_goals exact ⟨rfl, by (repeat (first | with_reducible (exact Since.refl _) | with_reducible assumption | with_reducible (refine Since.drew ?_) | with_reducible (refine Since.drewN ?_ _) | with_reducible (refine Since.alloc ?_ _) | (with_reducible (refine Since.setCell ?_ ?_ _); rotate_left; focus (first | (simp; done) | (simp; omega) | omega)) | (with_reducible (refine Since.trans ?_ (by with_reducible assumption)))))⟩
      obtain ⟨rfl, hSa⟩ := hcut
      have hPp := hPp.since hSa
      have hPq := hPq.since hSa
      have hTc := hTa.trans hSa
      clear l0 l1 hPc hSw hSa hTa hbr1
      obtain ⟨a1, a2, a3⟩ := id hPp
      obtain ⟨c1, c2, c3⟩ := id hPq
      by_cases h5 : n ≤ 50
      · have d5 : decide (n ≤ 50) = true := by simp; omega
        clear h5
        go_wp2_with (go_at_call 46; (with_reducible refine (HC.out _).mono ?_); rintro e w8 ⟨rfl, hS8⟩; have hT8 := hTc.trans hS8; have hPp8 := hPp.since hS8; have hPq8 := hPq.since hS8; clear a1 a2 a3 c1 c2 c3; obtain ⟨a1, a2, a3⟩ := id hPp8; obtain ⟨c1, c2, c3⟩ := id hPq8)
        go_roundw
        case rel => exact ⟨k + 1, by omega, by first | go_num | exact congrArg (Value.int IntKind.i64) (by omega), hT8⟩
        case measure => simp [intOf]; omega
      · have d5 : decide (n ≤ 50) = false := by simp; omega
        obtain ⟨⟨N0, N1⟩, i1, i2, d6⟩ := H50.out (by omega)
        obtain ⟨⟨t0, t1⟩, s0, s1⟩ := HT.out
        generalize hN : (n - 50) * (n - 50) = N at *
        have v4 : IntKind.i64.wrap N = N := IntWalk.i64_in _ (by omega)
        have H1 := Lib.hid (fun w => ref_small T (by unfold InW; omega) w)
        have H2 := fun w => ref_mul T T w
        have H3 := Lib.hid (fun w => ref_small N (by unfold InW; omega) w)
        have H4 := Lib.hid (fun w => ref_small SS (by unfold InW; omega) w)
        have H5 := fun w => ref_mul N SS w
        generalize T * T = TT at *
        generalize N * SS = NS at *
        have H8 := fun w => ref_cmp TT NS i1 i2 w
        generalize cmpI TT NS = C1 at *
        have H2 := Lib.hid H2; have H5 := Lib.hid H5; have H8 := Lib.hid H8
        clear h5 N0 N1 i1 i2 t0 t1 s0 s1 H50 HT
        go_wp2_with (first | (go_at_call 46; (with_reducible refine (HC.out _).mono ?_); rintro e w8 ⟨rfl, hS8⟩; have hT8 := hTc.trans hS8; have hPp8 := hPp.since hS8; have hPq8 := hPq.since hS8; clear a1 a2 a3 c1 c2 c3; obtain ⟨a1, a2, a3⟩ := id hPp8; obtain ⟨c1, c2, c3⟩ := id hPq8) | (go_at_call 45; (with_reducible refine (HSS.out _).mono ?_); rintro e w9 ⟨rfl, hS9⟩; have hT9 := hT8.trans hS9; clear a1 a2 a3 c1 c2 c3) | (go_at_call 49; (with_reducible refine (H1.out _).mono ?_); rintro e w10 ⟨rfl, hS10⟩; have hT10 : Since w5 w10 := (by (repeat (first | with_reducible (exact Since.refl _) | with_reducible assumption | with_reducible (refine Since.drew ?_) | with_reducible (refine Since.drewN ?_ _) | with_reducible (refine Since.alloc ?_ _) | (with_reducible (refine Since.setCell ?_ ?_ _); rotate_left; focus (first | (simp; done) | (simp; omega) | omega)) | (with_reducible (refine Since.trans ?_ (by with_reducible assumption))))))) | (go_at_call 48; (with_reducible refine (H2.out _).mono ?_); rintro e w11 ⟨rfl, hS11⟩; have hT11 : Since w5 w11 := (by (repeat (first | with_reducible (exact Since.refl _) | with_reducible assumption | with_reducible (refine Since.drew ?_) | with_reducible (refine Since.drewN ?_ _) | with_reducible (refine Since.alloc ?_ _) | (with_reducible (refine Since.setCell ?_ ?_ _); rotate_left; focus (first | (simp; done) | (simp; omega) | omega)) | (with_reducible (refine Since.trans ?_ (by with_reducible assumption))))))) | (go_at_call 49; (with_reducible refine (H3.out _).mono ?_); rintro e w12 ⟨rfl, hS12⟩; have hA12 := (row8 w11 _ rfl _ (dg TT)).since hS12; have hT12 : Since w5 w12 := (by (repeat (first | with_reducible (exact Since.refl _) | with_reducible assumption | with_reducible (refine Since.drew ?_) | with_reducible (refine Since.drewN ?_ _) | with_reducible (refine Since.alloc ?_ _) | (with_reducible (refine Since.setCell ?_ ?_ _); rotate_left; focus (first | (simp; done) | (simp; omega) | omega)) | (with_reducible (refine Since.trans ?_ (by with_reducible assumption))))))) | (go_at_call 49; (with_reducible refine (H4.out _).mono ?_); rintro e w13 ⟨rfl, hS13⟩; have hA13 := hA12.since hS13; have hT13 : Since w5 w13 := (by (repeat (first | with_reducible (exact Since.refl _) | with_reducible assumption | with_reducible (refine Since.drew ?_) | with_reducible (refine Since.drewN ?_ _) | with_reducible (refine Since.alloc ?_ _) | (with_reducible (refine Since.setCell ?_ ?_ _); rotate_left; focus (first | (simp; done) | (simp; omega) | omega)) | (with_reducible (refine Since.trans ?_ (by with_reducible assumption))))))) | (go_at_call 48; (with_reducible refine (H5.out _).mono ?_); rintro e w14 ⟨rfl, hS14⟩; have hA14 := hA13.since hS14; have hT14 : Since w5 w14 := (by (repeat (first | with_reducible (exact Since.refl _) | with_reducible assumption | with_reducible (refine Since.drew ?_) | with_reducible (refine Since.drewN ?_ _) | with_reducible (refine Since.alloc ?_ _) | (with_reducible (refine Since.setCell ?_ ?_ _); rotate_left; focus (first | (simp; done) | (simp; omega) | omega)) | (with_reducible (refine Since.trans ?_ (by with_reducible assumption)))))); obtain ⟨ra1, ra2, ra3⟩ := id hA14) | (go_at_call 50; (with_reducible refine (H8.out _).mono ?_); rintro e w15 ⟨rfl, hS15⟩; have hT15 : Since w5 w15 := (by (repeat (first | with_reducible (exact Since.refl _) | with_reducible assumption | with_reducible (refine Since.drew ?_) | with_reducible (refine Since.drewN ?_ _) | with_reducible (refine Since.alloc ?_ _) | (with_reducible (refine Since.setCell ?_ ?_ _); rotate_left; focus (first | (simp; done) | (simp; omega) | omega)) | (with_reducible (refine Since.trans ?_ (by with_reducible assumption))))))))
        go_roundw
        case rel => exact ⟨k + 1, by omega, by first | go_num | exact congrArg (Value.int IntKind.i64) (by omega), hT15⟩
        case measure => simp [intOf]; omega
    · obtain rfl : k = K := by omega
      have hkK' : ¬ (k : Int) < k := by omega
      clear hR5 hQ5
      go_wp2_with fail
      go_ret
      exact ⟨rfl, hT5.trans hSr⟩
end
end Go.Proofs.Ytckochcocflleaa
