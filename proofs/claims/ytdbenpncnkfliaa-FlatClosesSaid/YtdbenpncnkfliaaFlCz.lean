/-
  Texts of this seat, put together: each with its own head.
-/
import Derived.Test.YtdbenpncnkfliaaFlBz

/-
  Layer 14: the numbers: a piece's rounded points lie between its points; near the straight way.
-/
namespace Go.Proofs.Ytdbenpncnkfliaa
open Go.RowKit
set_option linter.unusedVariables false

theorem crv_mono {A C B A' C' B' i j : Int} (hA : A ≤ A') (hC : C ≤ C') (hB : B ≤ B') (hi : 0 ≤ i) (hj : 0 ≤ j) : curveI A C B j i ≤ curveI A' C' B' j i := by
  have h1 : A * j * j ≤ A' * j * j := Int.mul_le_mul_of_nonneg_right (Int.mul_le_mul_of_nonneg_right hA hj) hj
  have h2 : 2 * C * i * j ≤ 2 * C' * i * j := Int.mul_le_mul_of_nonneg_right (Int.mul_le_mul_of_nonneg_right (by omega) hi) hj
  have h3 : B * i * i ≤ B' * i * i := Int.mul_le_mul_of_nonneg_right (Int.mul_le_mul_of_nonneg_right hB hi) hi
  unfold curveI
  omega
theorem lin_mono {A B A' B' i j p : Int} (hA : A ≤ A') (hB : B ≤ B') (hi : 0 ≤ i) (hj : 0 ≤ j) (hp : 0 ≤ p) : lineI A B j i p ≤ lineI A' B' j i p := by
  have h1 : A * j ≤ A' * j := Int.mul_le_mul_of_nonneg_right hA hj
  have h3 : B * i ≤ B' * i := Int.mul_le_mul_of_nonneg_right hB hi
  exact Int.mul_le_mul_of_nonneg_right (by omega) hp
theorem crv_same (l i j : Int) : curveI l l l j i = (i + j) * (i + j) * l := by unfold curveI; grind
theorem lin_same (l i j : Int) : lineI l l j i (i + j) = (i + j) * (i + j) * l := by unfold lineI; grind
theorem quart (n : Nat) : (2 : Int) ^ (2 * (n : Int)).toNat = ((2 ^ n : Nat) : Int) * ((2 ^ n : Nat) : Int) := by
  have : (2 * (n : Int)).toNat = n + n := by omega
  rw [this, Int.pow_add]
  simp
/-- Rounded points lie between. -/
theorem rnd_between (s : Sg) (A C B L U : Int) (n k : Nat) (hn : n ≤ 10) (hk : k ≤ 2 ^ n) (lA : L ≤ A) (lB : L ≤ B) (lC : s.k = true → L ≤ C) (uA : A ≤ U) (uB : B ≤ U) (uC : s.k = true → C ≤ U) :
    L ≤ rndI (atI s A C B k n) n ∧ rndI (atI s A C B k n) n ≤ U := by
  have hp1 : 1 ≤ 2 ^ n := Nat.one_le_two_pow
  have e2 : (2 : Int) ^ n = ((2 ^ n : Nat) : Int) := by simp
  have hat : ((2 ^ n : Nat) : Int) * ((2 ^ n : Nat) : Int) * L ≤ atI s A C B k n ∧ atI s A C B k n ≤ ((2 ^ n : Nat) : Int) * ((2 ^ n : Nat) : Int) * U := by
    unfold atI
    rw [Int.toNat_natCast, e2]
    generalize 2 ^ n = m at *
    obtain ⟨j, hj⟩ : ∃ j : Int, j = (m : Int) - k := ⟨_, rfl⟩
    have hm : (m : Int) = k + j := by omega
    rw [← hj, hm]
    have hj0 : 0 ≤ j := by omega
    have hk0 : (0 : Int) ≤ k := by omega
    cases hs : s.k with
    | false =>
      simp only [Bool.false_eq_true, if_false]
      rw [← lin_same L k j, ← lin_same U k j]
      exact ⟨lin_mono lA lB hk0 hj0 (by omega), lin_mono uA uB hk0 hj0 (by omega)⟩
    | true =>
      simp only [if_true]
      rw [← crv_same L k j, ← crv_same U k j]
      exact ⟨crv_mono lA (lC hs) lB hk0 hj0, crv_mono uA (uC hs) uB hk0 hj0⟩
  unfold rndI
  rw [quart]
  generalize 2 ^ n = m at *
  have hm : (1 : Int) ≤ (m : Int) := by omega
  have hq : (1 : Int) ≤ (m : Int) * m := by
    have := Int.mul_le_mul_of_nonneg_right hm (by omega : (0 : Int) ≤ m)
    omega
  generalize (m : Int) * m = q at *
  constructor
  · apply Int.le_ediv_of_mul_le (by omega)
    rw [Int.mul_comm]
    omega
  · have : (atI s A C B k n + q / 2) / q < U + 1 := by
      apply Int.ediv_lt_of_lt_mul (by omega)
      rw [Int.add_mul, Int.one_mul, Int.mul_comm U]
      omega
    omega
theorem crv_part (A C B N W t f : Int) : curveI A C B (N * W - (t * W + f)) (t * W + f) = W * ((W - f) * curveI A C B (N - t) t + f * curveI A C B (N - (t + 1)) (t + 1)) - (A - 2 * C + B) * (f * (W - f)) := by unfold curveI; grind
theorem lin_part (A B N W t f : Int) : lineI A B (N * W - (t * W + f)) (t * W + f) (N * W) = W * ((W - f) * lineI A B (N - t) t N + f * lineI A B (N - (t + 1)) (t + 1) N) := by unfold lineI; grind
theorem rnd_err (v Q : Int) (hQ : 1 ≤ Q) : -Q ≤ 2 * (v - Q * ((v + Q / 2) / Q)) ∧ 2 * (v - Q * ((v + Q / 2) / Q)) ≤ Q := by
  have h1 := Int.emod_nonneg (v + Q / 2) (show Q ≠ 0 by omega)
  have h2 := Int.emod_lt_of_pos (v + Q / 2) (show 0 < Q by omega)
  have h3 := Int.mul_ediv_add_emod (v + Q / 2) Q
  generalize Q * ((v + Q / 2) / Q) = y at *
  generalize (v + Q / 2) % Q = r at *
  omega
theorem sq_pos (z : Int) : 0 ≤ z * z := by
  rcases Int.le_total 0 z with h | h
  · exact Int.mul_nonneg h h
  · have := Int.mul_nonneg (show 0 ≤ -z by omega) (show 0 ≤ -z by omega)
    rwa [Int.neg_mul_neg] at this
/-- At a part of a step: near the straight way. -/
theorem near_num (vA vB a b D W N f : Int) (hf0 : 0 ≤ f) (hf1 : f ≤ W) (hW : 1 ≤ W) (hN : 1 ≤ N) (hWN : W * N = 1024) (hA : -(N * N) ≤ 2 * (vA - N * N * a) ∧ 2 * (vA - N * N * a) ≤ N * N) (hB : -(N * N) ≤ 2 * (vB - N * N * b) ∧ 2 * (vB - N * N * b) ≤ N * N) (hD : -(64 * (N * N)) ≤ D ∧ D ≤ 64 * (N * N)) :
    -17825792 ≤ W * ((W - f) * vA + f * vB) - D * (f * (W - f)) - (a * (W - f) + b * f) * (N * N * W) ∧ W * ((W - f) * vA + f * vB) - D * (f * (W - f)) - (a * (W - f) + b * f) * (N * N * W) ≤ 17825792 := by
  have e : W * ((W - f) * vA + f * vB) - D * (f * (W - f)) - (a * (W - f) + b * f) * (N * N * W) = W * ((W - f) * (vA - N * N * a) + f * (vB - N * N * b)) - D * (f * (W - f)) := by grind
  rw [e]
  have hwq : W * (W * (N * N)) = 1048576 := by
    have : W * (W * (N * N)) = (W * N) * (W * N) := by grind
    rw [this, hWN]; rfl
  have hq1 : 1 ≤ N * N := by
    have := Int.mul_le_mul_of_nonneg_right hN (by omega : (0 : Int) ≤ N)
    omega
  generalize vA - N * N * a = x at *
  generalize vB - N * N * b = y at *
  generalize N * N = Q at *
  have g0 : 0 ≤ W - f := by omega
  have x1 : (W - f) * (2 * x) ≤ (W - f) * Q := Int.mul_le_mul_of_nonneg_left hA.2 g0
  have x2 : (W - f) * (-Q) ≤ (W - f) * (2 * x) := Int.mul_le_mul_of_nonneg_left hA.1 g0
  have y1 : f * (2 * y) ≤ f * Q := Int.mul_le_mul_of_nonneg_left hB.2 hf0
  have y2 : f * (-Q) ≤ f * (2 * y) := Int.mul_le_mul_of_nonneg_left hB.1 hf0
  have s1 : 2 * ((W - f) * x + f * y) = (W - f) * (2 * x) + f * (2 * y) := by grind
  have s2 : (W - f) * Q + f * Q = W * Q := by grind
  have s3 : (W - f) * (-Q) + f * (-Q) = -(W * Q) := by grind
  generalize (W - f) * x + f * y = X at *
  have z1 : W * (2 * X) ≤ W * (W * Q) := Int.mul_le_mul_of_nonneg_left (by omega) (by omega)
  have z2 : W * (-(W * Q)) ≤ W * (2 * X) := Int.mul_le_mul_of_nonneg_left (by omega) (by omega)
  have z3 : W * (-(W * Q)) = -(W * (W * Q)) := by grind
  have z4 : W * (2 * X) = 2 * (W * X) := by grind
  have hg0 : 0 ≤ f * (W - f) := Int.mul_nonneg hf0 g0
  have hg1 : 4 * (f * (W - f)) ≤ W * W := by
    have h := sq_pos (W - 2 * f)
    have : (W - 2 * f) * (W - 2 * f) = W * W - 4 * (f * (W - f)) := by grind
    omega
  have hQg : 4 * (Q * (f * (W - f))) ≤ 1048576 := by
    have h := Int.mul_le_mul_of_nonneg_left hg1 (by omega : (0 : Int) ≤ Q)
    have e1 : Q * (4 * (f * (W - f))) = 4 * (Q * (f * (W - f))) := by grind
    have e2 : Q * (W * W) = W * (W * Q) := by grind
    omega
  have d1 : D * (f * (W - f)) ≤ 64 * Q * (f * (W - f)) := Int.mul_le_mul_of_nonneg_right hD.2 hg0
  have d2 : -(64 * Q) * (f * (W - f)) ≤ D * (f * (W - f)) := Int.mul_le_mul_of_nonneg_right hD.1 hg0
  have d3 : 64 * Q * (f * (W - f)) = 64 * (Q * (f * (W - f))) := by grind
  have d4 : -(64 * Q) * (f * (W - f)) = -(64 * (Q * (f * (W - f)))) := by grind
  generalize W * X = Y at *
  generalize Q * (f * (W - f)) = G at *
  generalize D * (f * (W - f)) = E at *
  omega
theorem ben_st (s : Sg) (hr : inR s = true) (hk : s.k = true) : ben s.ax s.cx s.bx ≤ 64 * (((2 ^ stN s : Nat) : Int) * ((2 ^ stN s : Nat) : Int)) ∧ ben s.ay s.cy s.bz ≤ 64 * (((2 ^ stN s : Nat) : Int) * ((2 ^ stN s : Nat) : Int)) := by
  obtain ⟨h1, h2, h3⟩ := inR_tny (s := s) (by rw [hk, hr]; rfl)
  have b1 := ben_in h1.1 h3.1 h2.1
  have b2 := ben_in h1.2 h3.2 h2.2
  have e : bendI s = max (ben s.ax s.cx s.bx) (ben s.ay s.cy s.bz) := by unfold bendI; rw [hk, hr]; rfl
  have hb : bendI s ≤ 16777216 := by rw [e]; omega
  have h9 := steps_le (bendI s)
  have hi := (steps_iff (b := bendI s) (z := ((stepsN (bendI s) : Nat) : Int)) hb (by omega) (by omega)).1
  have hq := quart (stN s)
  unfold stN at *
  rw [hq] at hi
  have hn : ¬ (64 * (((2 ^ stepsN (bendI s) : Nat) : Int) * ((2 ^ stepsN (bendI s) : Nat) : Int)) < bendI s) := fun h => by have := hi.1 h; omega
  generalize 64 * (((2 ^ stepsN (bendI s) : Nat) : Int) * ((2 ^ stepsN (bendI s) : Nat) : Int)) = Z at *
  rw [e] at hn
  omega
theorem near_axis (s : Sg) (A C B : Int) (n N W t f : Nat) (hn : n ≤ 9) (hN : N = 2 ^ n) (hW : W = 2 ^ (10 - n)) (ht : t + 1 ≤ N) (hf : f < W) (hb : s.k = true → ben A C B ≤ 64 * ((N : Int) * N)) :
    -17825792 ≤ atI s A C B ((t * W + f : Nat) : Int) 10 - (rndI (atI s A C B t n) n * ((W : Int) - f) + rndI (atI s A C B ((t : Int) + 1) n) n * f) * ((N : Int) * N * W) ∧
      atI s A C B ((t * W + f : Nat) : Int) 10 - (rndI (atI s A C B t n) n * ((W : Int) - f) + rndI (atI s A C B ((t : Int) + 1) n) n * f) * ((N : Int) * N * W) ≤ 17825792 := by
  have hWN' : W * N = 1024 := by
    rw [hN, hW, ← Nat.pow_add, show 10 - n + n = 10 by omega]
  have hWN : (W : Int) * (N : Int) = 1024 := by
    have := congrArg (fun x : Nat => (x : Int)) hWN'
    simpa using this
  have hW1 : 1 ≤ W := by rw [hW]; exact Nat.one_le_two_pow
  have hN1 : 1 ≤ N := by rw [hN]; exact Nat.one_le_two_pow
  have e10 : (2 : Int) ^ (10 : Int).toNat = (N : Int) * W := by rw [Int.mul_comm, hWN]; rfl
  have en : (2 : Int) ^ ((n : Nat) : Int).toNat = (N : Int) := by rw [Int.toNat_natCast, hN]; simp
  have hq := quart n
  rw [← hN] at hq
  have ecast : ((t * W + f : Nat) : Int) = (t : Int) * W + f := by simp
  rw [ecast]
  have hQ1 : (1 : Int) ≤ (N : Int) * N := by
    have := Int.mul_le_mul_of_nonneg_right (show (1 : Int) ≤ (N : Int) by omega) (show (0 : Int) ≤ (N : Int) by omega)
    omega
  have rA := rnd_err (atI s A C B t n) ((N : Int) * N) hQ1
  have rB := rnd_err (atI s A C B ((t : Int) + 1) n) ((N : Int) * N) hQ1
  unfold rndI
  rw [hq]
  unfold atI at *
  rw [e10, en] at *
  cases hs : s.k with
  | false =>
    rw [hs] at rA rB
    simp only [Bool.false_eq_true, if_false] at rA rB ⊢
    rw [lin_part A B N W t f]
    have h := near_num _ _ _ _ 0 W N f (by omega) (by omega) (by omega) (by omega) hWN rA rB (by omega)
    rw [Int.zero_mul, Int.sub_zero] at h
    exact h
  | true =>
    rw [hs] at rA rB
    simp only [if_true] at rA rB ⊢
    rw [crv_part A C B N W t f]
    have hb' := hb hs
    refine near_num _ _ _ _ (A - 2 * C + B) W N f (by omega) (by omega) (by omega) (by omega) hWN rA rB ?_
    unfold ben at hb'
    split at hb' <;> omega
end Go.Proofs.Ytdbenpncnkfliaa

/-
  Layer 14: the law FlatNear, walked.
-/
namespace Go.Proofs.Ytdbenpncnkfliaa
open Go.RowKit Go.ChangeShapes Go.WideShapes Go.Deep
set_option linter.unusedVariables false

theorem mem_addP {L : List Pq} {p q : Pq} (h : q ∈ L ∨ q = p) : q ∈ addP L p := by
  rw [addP_eq]
  unfold lastNe
  cases hl : L.getLast? with
  | none =>
    simp only [if_true]
    rcases h with h | rfl
    · exact List.mem_append_left _ h
    · simp
  | some l =>
    simp only
    by_cases e : l.x = p.x ∧ l.y = p.y
    · simp only [e.1, e.2, beq_self_eq_true, Bool.and_self, Bool.not_true, Bool.false_eq_true, if_false]
      rcases h with h | rfl
      · exact h
      · have hm := List.mem_of_getLast? hl
        have : q = l := by cases q; cases l; simp_all
        rw [this]
        exact hm
    · split
      · rcases h with h | rfl
        · exact List.mem_append_left _ h
        · simp
      · rename_i hn
        exact absurd hn (by simpa using fun h1 h2 => e ⟨h1, h2⟩)
theorem mem_pts (s : Sg) (n : Nat) (k : Nat) : ∀ m, k < m → rndP s n k ∈ ptsN s n m
  | 0, h => by omega
  | m + 1, h => by
    simp only [ptsN]
    by_cases e : k = m
    · subst e
      exact mem_addP (.inr rfl)
    · exact mem_addP (.inl (mem_pts s n k m (by omega)))
theorem rnd_tny (s : Sg) (hr : inR s = true) (n k : Nat) (hn : n ≤ 10) (hk : k ≤ 2 ^ n) : Tny (rndP s n k).x ∧ Tny (rndP s n k).y := by
  obtain ⟨h1, h2, h3⟩ := inR_parts hr
  unfold Tny at *
  exact ⟨rnd_between s s.ax s.cx s.bx (-4194304) 4194304 n k hn hk h1.1.1 h2.1.1 (fun h => (h3 h).1.1) h1.1.2 h2.1.2 (fun h => (h3 h).1.2), rnd_between s s.ay s.cy s.bz (-4194304) 4194304 n k hn hk h1.2.1 h2.2.1 (fun h => (h3 h).2.1) h1.2.2 h2.2.2 (fun h => (h3 h).2.2)⟩
set_option maxRecDepth 1000000 in
set_option maxHeartbeats 32000000 in
theorem walk_flatnear (s : Sg) (hs : s.wf) (K : Int) (hK0 : 0 ≤ K) (hK1 : K ≤ 65535) (w : World) :
    Calls Try.prog 13 #[s.v, .int .u16 K] w fun e w' => e = .returned (.bool true) ∧ Since w w' := by
  have hN := fun w b hb t => seg_new w b hb s t
  have hG := fun w => rq_good s w
  have HN := Lib.hid hN
  cases hok : inR s with
  | false =>
    rw [hok] at hG
    unfold Sg.v at *
    have HG := Lib.hid hG
    clear hG hN hs hok
    go_enter Try.func13, Try.ntmps13
    go_wp2_with (first | (go_at_call 30; (with_reducible refine (alive14 _).mono ?_); rintro e w1 ⟨rfl, hS1⟩; have sa := (HN.out w _ rfl _).since hS1; have hT : Since w w1 := (by (repeat (first | with_reducible (exact Since.refl _) | with_reducible assumption | with_reducible (refine Since.drew ?_) | with_reducible (refine Since.drewN ?_ _) | with_reducible (refine Since.alloc ?_ _) | (with_reducible (refine Since.setCell ?_ ?_ _); rotate_left; focus (first | (simp; done) | (simp; omega) | omega)) | (with_reducible (refine Since.trans ?_ (by with_reducible assumption)))))); obtain ⟨a1, a2, a3, a4, a5, a6, a7, a8⟩ := id sa) | (go_at_call 32; (with_reducible refine (HG.out _).mono ?_); rintro e w3 ⟨rfl, hS3⟩; have hV := hT.trans hS3))
    go_ret
    exact ⟨by first | rfl | simp, hV⟩
  | true =>
    rw [hok] at hG
    have hst := fun w => rq_steps s w
    change ∀ w, Calls Try.prog 42 #[s.v] w fun e w' => e = .returned (.int .i64 (stN s : Nat)) ∧ Since w w' at hst
    have hn9 := stN_le s
    obtain ⟨i, hi⟩ : ∃ i : Nat, i = (K % 1024).toNat := ⟨_, rfl⟩
    have hi1 : K.tmod 1024 = (i : Int) := by rw [Int.tmod_eq_emod_of_nonneg hK0]; omega
    have hi2 : i < 1024 := by omega
    clear hi
    obtain ⟨n, hn⟩ : ∃ n, n = stN s := ⟨_, rfl⟩
    rw [← hn] at hst hn9
    unfold Sg.v at *
    have HG := Lib.hid hG
    have HST := Lib.hid hst
    have HHN := Lib.hid hn
    have HOK := Lib.hid hok
    have u1 : IntKind.i64.wrap (10 - (n : Int)) = 10 - (n : Int) := IntWalk.i64_in _ (by omega)
    have HSW := Lib.hid hs
    clear hG hst hN hs hok hn
    go_enter Try.func13, Try.ntmps13
    go_upto_region 9 with (first | (go_at_call 30; (with_reducible refine (alive14 _).mono ?_); rintro e w1 ⟨rfl, hS1⟩; have sa := (HN.out w _ rfl _).since hS1; have hT : Since w w1 := (by (repeat (first | with_reducible (exact Since.refl _) | with_reducible assumption | with_reducible (refine Since.drew ?_) | with_reducible (refine Since.drewN ?_ _) | with_reducible (refine Since.alloc ?_ _) | (with_reducible (refine Since.setCell ?_ ?_ _); rotate_left; focus (first | (simp; done) | (simp; omega) | omega)) | (with_reducible (refine Since.trans ?_ (by with_reducible assumption)))))); obtain ⟨a1, a2, a3, a4, a5, a6, a7, a8⟩ := id sa) | (go_at_call 32; (with_reducible refine (HG.out _).mono ?_); rintro e w2 ⟨rfl, hS2⟩; have sb := sa.since hS2; have hU := hT.trans hS2; clear a1 a2 a3 a4 a5 a6 a7 a8 sa hT hS1; obtain ⟨a1, a2, a3, a4, a5, a6, a7, a8⟩ := id sb) | (go_at_call 42; (with_reducible refine (HST.out _).mono ?_); rintro e w3 ⟨rfl, hS3⟩; have sc := sb.since hS3; have hV := hU.trans hS3; clear a1 a2 a3 a4 a5 a6 a7 a8 sb hU hS2; obtain ⟨a1, a2, a3, a4, a5, a6, a7, a8⟩ := id sc))
    obtain ⟨W, hW⟩ : ∃ W : Nat, W = 2 ^ (10 - n) := ⟨_, rfl⟩
    obtain ⟨N, hN⟩ : ∃ N : Nat, N = 2 ^ n := ⟨_, rfl⟩
    have hWI : (2 : Int) ^ (10 - n) = (W : Int) := by rw [hW]; simp
    have hWN : W * N = 1024 := by rw [hN, hW, ← Nat.pow_add, show 10 - n + n = 10 by omega]
    have hW1 : 1 ≤ W := by rw [hW]; exact Nat.one_le_two_pow
    have hN1 : 1 ≤ N := by rw [hN]; exact Nat.one_le_two_pow
    have hWle : W ≤ 1024 := by rw [← hWN]; exact Nat.le_mul_of_pos_right _ hN1
    have hNle : N ≤ 1024 := by rw [← hWN]; exact Nat.le_mul_of_pos_left _ hW1
    obtain ⟨t, ht⟩ : ∃ t : Nat, t = i / W := ⟨_, rfl⟩
    obtain ⟨f, hf⟩ : ∃ f : Nat, f = i % W := ⟨_, rfl⟩
    have hdiv : W * t + f = i := by rw [ht, hf]; exact Nat.div_add_mod i W
    have hfW : f < W := by rw [hf]; exact Nat.mod_lt _ hW1
    have htN : t < N := by rw [ht]; exact Nat.div_lt_of_lt_mul (by rw [hWN]; exact hi2)
    have etI : (i : Int) / (W : Int) = (t : Int) := by rw [ht]; simp
    have e2 : wrap64 ((t : Int) * (W : Int)) = ((t * W : Nat) : Int) := by
      have h1 : t * W ≤ 1024 := by rw [Nat.mul_comm]; omega
      have h2 : ((t * W : Nat) : Int) = (t : Int) * (W : Int) := by simp
      rw [← h2]
      unfold wrap64
      omega
    have e3 : wrap64 ((i : Int) - ((t * W : Nat) : Int)) = (f : Int) := by
      have h1 : t * W = W * t := Nat.mul_comm _ _
      rw [h1]
      unfold wrap64
      omega
    rw [hWI, etI, e2, e3]
    have htwf : t * W + f = i := by rw [Nat.mul_comm]; exact hdiv
    have hNI : (2 : Int) ^ n = (N : Int) := by rw [hN]; simp
    have nX := near_axis s s.ax s.cx s.bx n N W t f hn9 hN hW (by omega) hfW (fun h => by have := (ben_st s HOK.out h).1; rw [← HHN.out, ← hN] at this; exact this)
    have nY := near_axis s s.ay s.cy s.bz n N W t f hn9 hN hW (by omega) hfW (fun h => by have := (ben_st s HOK.out h).2; rw [← HHN.out, ← hN] at this; exact this)
    rw [htwf] at nX nY
    change -17825792 ≤ atX s i 10 - (rndI (atX s t n) n * ((W : Int) - f) + rndI (atX s ((t : Int) + 1) n) n * f) * ((N : Int) * N * W) ∧ atX s i 10 - (rndI (atX s t n) n * ((W : Int) - f) + rndI (atX s ((t : Int) + 1) n) n * f) * ((N : Int) * N * W) ≤ 17825792 at nX
    change -17825792 ≤ atY s i 10 - (rndI (atY s t n) n * ((W : Int) - f) + rndI (atY s ((t : Int) + 1) n) n * f) * ((N : Int) * N * W) ∧ atY s i 10 - (rndI (atY s t n) n * ((W : Int) - f) + rndI (atY s ((t : Int) + 1) n) n * f) * ((N : Int) * N * W) ≤ 17825792 at nY
    have tA := rnd_tny s HOK.out n t (by omega) (by omega)
    have tB := rnd_tny s HOK.out n (t + 1) (by omega) (by omega)
    have hmem : (⟨rndI (atX s t n) n, rndI (atY s t n) n⟩ : Pq) ∈ ptsOf s := by
      unfold ptsOf
      rw [← HHN.out]
      exact mem_pts s n t (2 ^ n + 1) (by omega)
    unfold rndP at tA tB
    simp only [Int.natCast_add, Int.natCast_one] at tA tB
    have ok1 := atOK_in s n t hn9 (by omega) HOK.out
    have ok2 := atOK_in s n (t + 1) hn9 (by omega) HOK.out
    simp only [Int.natCast_add, Int.natCast_one] at ok2
    have ok3 : atOK s (i : Int) 10 = true := by
      unfold atOK argOK
      rw [HOK.out]
      simp
      omega
    have iX := at_in ok3
    have hr1 := fun w => rq_round_yes s t n ok1 w
    have hr2 := fun w => rq_round_yes s ((t : Int) + 1) n ok2 w
    have ha := fun w => rq_at_yes s i 10 ok3 w
    have hp := fun w => fa_piece_s s HSW.out HOK.out w
    have hpl := pts_le s
    unfold Pt Sg.v at hr1 hr2 ha hp
    generalize rndI (atX s t n) n = A1 at *
    generalize rndI (atY s t n) n = A2 at *
    generalize rndI (atX s ((t : Int) + 1) n) n = B1 at *
    generalize rndI (atY s ((t : Int) + 1) n) n = B2 at *
    generalize atX s i 10 = X at *
    generalize atY s i 10 = Y at *
    generalize ptsOf s = PT at *
    obtain ⟨np, hnp⟩ : ∃ np, np = PT.length := ⟨_, rfl⟩
    rw [← hnp] at hp hpl
    obtain ⟨M, hM⟩ : ∃ M : Int, M = (N : Int) * N * W := ⟨_, rfl⟩
    rw [← hM] at nX nY
    have hWNI : (W : Int) * (N : Int) = 1024 := by
      have := congrArg (fun x : Nat => (x : Int)) hWN
      simpa using this
    have hM2 : M = 1024 * N := by rw [hM, ← hWNI]; grind
    have hMW : (1048576 : Int).tdiv (W : Int) = M := by
      have e : (1048576 : Int) = M * W := by
        have : M * W = ((W : Int) * N) * ((W : Int) * N) := by rw [hM]; grind
        rw [this, hWNI]; rfl
      rw [e]
      exact Int.mul_tdiv_cancel _ (by omega)
    have hM0 : 0 ≤ M ∧ M ≤ 1048576 := by omega
    have hG0 : 0 ≤ (W : Int) - f ∧ (W : Int) - f ≤ 1024 := by omega
    have m1 := mul_in (X := 4194304) (Y := 1024) tA.1.1 tA.1.2 hG0.1 hG0.2
    have m2 := mul_in (X := 4194304) (Y := 1024) tA.2.1 tA.2.2 hG0.1 hG0.2
    have m3 := mul_in (X := 4194304) (Y := 1024) tB.1.1 tB.1.2 (by omega : (0 : Int) ≤ f) (by omega : (f : Int) ≤ 1024)
    have m4 := mul_in (X := 4194304) (Y := 1024) tB.2.1 tB.2.2 (by omega : (0 : Int) ≤ f) (by omega : (f : Int) ≤ 1024)
    have w0 : IntKind.i64.wrap ((W : Int) - f) = (W : Int) - f := IntWalk.i64_in _ (by omega)
    have w1 : IntKind.i64.wrap (A1 * ((W : Int) - f)) = A1 * ((W : Int) - f) := IntWalk.i64_in _ (by omega)
    have w2 : IntKind.i64.wrap (A2 * ((W : Int) - f)) = A2 * ((W : Int) - f) := IntWalk.i64_in _ (by omega)
    have w3' : IntKind.i64.wrap (B1 * (f : Int)) = B1 * (f : Int) := IntWalk.i64_in _ (by omega)
    have w4 : IntKind.i64.wrap (B2 * (f : Int)) = B2 * (f : Int) := IntWalk.i64_in _ (by omega)
    have w5 : IntKind.i64.wrap (A1 * ((W : Int) - f) + B1 * (f : Int)) = A1 * ((W : Int) - f) + B1 * (f : Int) := IntWalk.i64_in _ (by omega)
    have w6 : IntKind.i64.wrap (A2 * ((W : Int) - f) + B2 * (f : Int)) = A2 * ((W : Int) - f) + B2 * (f : Int) := IntWalk.i64_in _ (by omega)
    have m5 := mul_in (X := 8589934592) (Y := 1048576) (x := A1 * ((W : Int) - f) + B1 * (f : Int)) (by omega) (by omega) hM0.1 hM0.2
    have m6 := mul_in (X := 8589934592) (Y := 1048576) (x := A2 * ((W : Int) - f) + B2 * (f : Int)) (by omega) (by omega) hM0.1 hM0.2
    have w7 : IntKind.i64.wrap ((A1 * ((W : Int) - f) + B1 * (f : Int)) * M) = (A1 * ((W : Int) - f) + B1 * (f : Int)) * M := IntWalk.i64_in _ (by omega)
    have w8 : IntKind.i64.wrap ((A2 * ((W : Int) - f) + B2 * (f : Int)) * M) = (A2 * ((W : Int) - f) + B2 * (f : Int)) * M := IntWalk.i64_in _ (by omega)
    have w9 : IntKind.i64.wrap (X - (A1 * ((W : Int) - f) + B1 * (f : Int)) * M) = X - (A1 * ((W : Int) - f) + B1 * (f : Int)) * M := IntWalk.i64_in _ (by omega)
    have w10 : IntKind.i64.wrap (Y - (A2 * ((W : Int) - f) + B2 * (f : Int)) * M) = Y - (A2 * ((W : Int) - f) + B2 * (f : Int)) * M := IntWalk.i64_in _ (by omega)
    have ha1 := fun w => rq_abs (X - (A1 * ((W : Int) - f) + B1 * (f : Int)) * M) (by omega) (by omega) w
    have ha2 := fun w => rq_abs (Y - (A2 * ((W : Int) - f) + B2 * (f : Int)) * M) (by omega) (by omega) w
    have hv1 : decide ((if X - (A1 * ((W : Int) - f) + B1 * (f : Int)) * M < 0 then -(X - (A1 * ((W : Int) - f) + B1 * (f : Int)) * M) else X - (A1 * ((W : Int) - f) + B1 * (f : Int)) * M) ≤ 17825792) = true := decide_eq_true (by split <;> omega)
    have hv2 : decide ((if Y - (A2 * ((W : Int) - f) + B2 * (f : Int)) * M < 0 then -(Y - (A2 * ((W : Int) - f) + B2 * (f : Int)) * M) else Y - (A2 * ((W : Int) - f) + B2 * (f : Int)) * M) ≤ 17825792) = true := decide_eq_true (by split <;> omega)
    obtain ⟨V1, hV1⟩ : ∃ V1, V1 = (if X - (A1 * ((W : Int) - f) + B1 * (f : Int)) * M < 0 then -(X - (A1 * ((W : Int) - f) + B1 * (f : Int)) * M) else X - (A1 * ((W : Int) - f) + B1 * (f : Int)) * M) := ⟨_, rfl⟩
    obtain ⟨V2, hV2⟩ : ∃ V2, V2 = (if Y - (A2 * ((W : Int) - f) + B2 * (f : Int)) * M < 0 then -(Y - (A2 * ((W : Int) - f) + B2 * (f : Int)) * M) else Y - (A2 * ((W : Int) - f) + B2 * (f : Int)) * M) := ⟨_, rfl⟩
    rw [← hV1] at ha1 hv1
    rw [← hV2] at ha2 hv2
    have w11 : IntKind.i64.wrap ((t : Int) + 1) = (t : Int) + 1 := IntWalk.i64_in _ (by omega)
    have HR1 := Lib.hid hr1
    have HR2 := Lib.hid hr2
    have HA := Lib.hid ha
    have HP := Lib.hid hp
    have HA1 := Lib.hid ha1
    have HA2 := Lib.hid ha2
    have HV1 := Lib.hid hv1
    have HV2 := Lib.hid hv2
    have HMEM := Lib.hid hmem
    have HNP := Lib.hid hnp
    have HWI := Lib.hid hWI
    have W0 := Lib.hid w0
    have W1 := Lib.hid w1
    have W2 := Lib.hid w2
    have W3 := Lib.hid w3'
    have W4 := Lib.hid w4
    have W5 := Lib.hid w5
    have W6 := Lib.hid w6
    have W7 := Lib.hid w7
    have W8 := Lib.hid w8
    have W9 := Lib.hid w9
    have W10 := Lib.hid w10
    have HMW := Lib.hid hMW
    have w12 : wrap64 M = M := by unfold wrap64; omega
    have W12 := Lib.hid w12
    clear w12
    clear hr1 hr2 ha hp ha1 ha2 hv1 hv2 hmem hnp hV1 hV2 nX nY tA tB ok1 ok2 ok3 iX m1 m2 m3 m4 m5 m6 hM hM2 hMW hM0 hG0 hWN hWNI htwf hdiv etI e2 e3 hNI ht hf hN hW HSW HOK HHN HG HST w0 w1 w2 w3' w4 w5 w6 w7 w8 w9 w10 hWI
    generalize ((t * W : Nat) : Int) = TW at *
    have tok1 := True.intro
    go_wp2_with (first | (go_at_call 43; have _t := tok1; (with_reducible refine (HR1.out _).mono ?_); rintro e w4 ⟨rfl, hS4⟩; have sd := (sc.since hS4).alloc (.cells #[.int .i64 A1, .int .i64 A2] 33); have hT4 := (hV.trans hS4).alloc (.cells #[.int .i64 A1, .int .i64 A2] 33); have pa := pt_new w4 _ rfl A1 A2 33; clear a1 a2 a3 a4 a5 a6 a7 a8 sc hV hS3 tok1 _t; obtain ⟨a1, a2, a3, a4, a5, a6, a7, a8⟩ := id sd) | (go_at_call 43; (with_reducible refine (HR2.out _).mono ?_); rintro e w5 ⟨rfl, hS5⟩; have se := (sd.since hS5).alloc (.cells #[.int .i64 B1, .int .i64 B2] 33); have hT5 := (hT4.trans hS5).alloc (.cells #[.int .i64 B1, .int .i64 B2] 33); have pb := (pa.since hS5).alloc (.cells #[.int .i64 B1, .int .i64 B2] 33); have pc := pt_new w5 _ rfl B1 B2 33; clear a1 a2 a3 a4 a5 a6 a7 a8 sd hT4 hS4 pa; obtain ⟨a1, a2, a3, a4, a5, a6, a7, a8⟩ := id se) | (go_at_call 44; (with_reducible refine (HA.out _).mono ?_); rintro e w6 ⟨rfl, hS6⟩; have sf := (se.since hS6).alloc (.cells #[.int .i64 X, .int .i64 Y] 33); have hT6 := (hT5.trans hS6).alloc (.cells #[.int .i64 X, .int .i64 Y] 33); have pd := (pb.since hS6).alloc (.cells #[.int .i64 X, .int .i64 Y] 33); have pe := (pc.since hS6).alloc (.cells #[.int .i64 X, .int .i64 Y] 33); have pf := pt_new w6 _ rfl X Y 33; clear a1 a2 a3 a4 a5 a6 a7 a8 se hT5 hS5 pb pc; obtain ⟨a1, a2, a3, a4, a5, a6, a7, a8⟩ := id sf) | (go_at_call 31; (with_reducible refine (HP.out _).mono ?_); rintro e w7 ⟨A7, c7, rfl, hr7, hS7⟩; have hT7 := hT6.trans hS7; have q1 := pd.since hS7; have q2 := pe.since hS7; have q3 := pf.since hS7; clear a1 a2 a3 a4 a5 a6 a7 a8 sf hT6 hS6 pd pe pf))
    generalize w4.heap.size = b9 at *
    generalize w5.heap.size = b11 at *
    generalize w6.heap.size = b13 at *
    clear hS7
    go_loopw [17, 74] (fun v y wr => ∃ (j : Nat) (hb : Bool), j ≤ np ∧ y = .int .i64 (j : Int) ∧ v = .bool hb ∧ Since w7 wr ∧ (hb = false → ∀ (i : Nat) (p : Pq), i < j → PT[i]? = some p → p ≠ ⟨A1, A2⟩)) (fun _ y _ => np - (intOf y).toNat)
    case atStart => exact ⟨0, false, by omega, rfl, rfl, Since.refl _, fun _ i p hi => by omega⟩
    case round =>
      obtain ⟨j, hb, hj, rfl, rfl, hS, hA⟩ := hrel
      have HAA := Lib.hid hA
      clear hA
      obtain ⟨a1, a2, a3⟩ := q1.since hS
      by_cases hjn : j < np
      · have hjn' : (j : Int) < np := by omega
        have hp : PT[j]? = some (PT[j]'(by rw [← HNP.out]; omega)) := List.getElem?_eq_getElem _
        generalize PT[j]'(by rw [← HNP.out]; omega) = p at *
        have hnn := HNP.out
        obtain ⟨bp, op, rfl, hbp, hcp⟩ := hr7 (by omega)
        have x0 := (hS.1 _ _ hbp).trans (hcp j p hp 0 (by omega))
        have x1 := (hS.1 _ _ hbp).trans (hcp j p hp 1 (by omega))
        simp only [ptL, List.getD_cons_succ, List.getD_cons_zero, Nat.add_zero] at x0 x1
        have z4 : IntKind.i64.wrap ((j : Int) + 1) = (j : Int) + 1 := IntWalk.i64_in _ (by omega)
        have HPJ := Lib.hid hp
        clear hcp hp hnn
        cases hb
        · obtain ⟨px, py⟩ := p
          simp only at x0 x1
          rcases cnt_cases px py A1 A2 with ⟨rfl, rfl⟩ | ⟨f0, rfl, f1, f2⟩ | ⟨f0, f1, f2⟩
          · go_wp2_with fail
            go_roundw
            case rel => exact ⟨j + 1, true, by omega, by go_num, rfl, by (repeat (first | with_reducible (exact Since.refl _) | with_reducible assumption | with_reducible (refine Since.drew ?_) | with_reducible (refine Since.drewN ?_ _) | with_reducible (refine Since.alloc ?_ _) | (with_reducible (refine Since.setCell ?_ ?_ _); rotate_left; focus (first | (simp; done) | (simp; omega) | omega)) | (with_reducible (refine Since.trans ?_ (by with_reducible assumption))))), fun h => by cases h⟩
            case measure => simp [intOf]; omega
          · have f3 : (A2 == py) = false := by simp; exact fun h => f2 h.symm
            clear f0
            go_wp2_with fail
            go_roundw
            case rel => exact ⟨j + 1, false, by omega, by go_num, rfl, by (repeat (first | with_reducible (exact Since.refl _) | with_reducible assumption | with_reducible (refine Since.drew ?_) | with_reducible (refine Since.drewN ?_ _) | with_reducible (refine Since.alloc ?_ _) | (with_reducible (refine Since.setCell ?_ ?_ _); rotate_left; focus (first | (simp; done) | (simp; omega) | omega)) | (with_reducible (refine Since.trans ?_ (by with_reducible assumption))))), fun _ i p hi hp he => by
              by_cases e : i = j
              · subst e
                rw [HPJ.out] at hp
                injection hp with hp
                rw [← hp] at he
                injection he with _ he
                exact f2 he
              · exact HAA.out rfl i p (by omega) hp he⟩
            case measure => simp [intOf]; omega
          · have f3 : (A1 == px) = false := by simp; exact fun h => f2 h.symm
            clear f0
            go_wp2_with fail
            go_roundw
            case rel => exact ⟨j + 1, false, by omega, by go_num, rfl, by (repeat (first | with_reducible (exact Since.refl _) | with_reducible assumption | with_reducible (refine Since.drew ?_) | with_reducible (refine Since.drewN ?_ _) | with_reducible (refine Since.alloc ?_ _) | (with_reducible (refine Since.setCell ?_ ?_ _); rotate_left; focus (first | (simp; done) | (simp; omega) | omega)) | (with_reducible (refine Since.trans ?_ (by with_reducible assumption))))), fun _ i p hi hp he => by
              by_cases e : i = j
              · subst e
                rw [HPJ.out] at hp
                injection hp with hp
                rw [← hp] at he
                injection he with he _
                exact f2 he
              · exact HAA.out rfl i p (by omega) hp he⟩
            case measure => simp [intOf]; omega
        · go_wp2_with fail
          go_roundw
          case rel => exact ⟨j + 1, true, by omega, by go_num, rfl, by (repeat (first | with_reducible (exact Since.refl _) | with_reducible assumption | with_reducible (refine Since.drew ?_) | with_reducible (refine Since.drewN ?_ _) | with_reducible (refine Since.alloc ?_ _) | (with_reducible (refine Since.setCell ?_ ?_ _); rotate_left; focus (first | (simp; done) | (simp; omega) | omega)) | (with_reducible (refine Since.trans ?_ (by with_reducible assumption))))), fun h => by cases h⟩
          case measure => simp [intOf]; omega
      · obtain rfl : j = np := by omega
        obtain rfl : hb = true := by
          cases hb with
          | true => rfl
          | false =>
            obtain ⟨i, hi, he⟩ := List.getElem_of_mem HMEM.out
            exact absurd he (HAA.out rfl i _ (by rw [HNP.out]; exact hi) (List.getElem?_eq_getElem hi))
        obtain ⟨b1, b2, b3⟩ := q2.since hS
        obtain ⟨d1, d2, d3⟩ := q3.since hS
        have w4 : wrap64 ((2 : Int) ^ (10 - n)) = (W : Int) := by rw [HWI.out]; unfold wrap64; omega
        clear HAA hr7 HMEM
        go_upto_region 20 with fail
        rw [w4]
        clear w4
        have w0 := W0.out
        have w1 := W1.out
        have w2 := W2.out
        have w3' := W3.out
        have w4 := W4.out
        have w5 := W5.out
        have w6 := W6.out
        have w7' := W7.out
        have w8 := W8.out
        have w9 := W9.out
        have w10 := W10.out
        have hmw := HMW.out
        have w12 := W12.out
        have hW0 : (W : Int) ≠ 0 := by omega
        have hv1 := HV1.out
        have hv2 := HV2.out
        have tok2 := True.intro
        go_wp2_with (first | (go_at_call 45; have _t := tok2; (with_reducible refine (HA1.out _).mono ?_); rintro e w8 ⟨rfl, hS8⟩; have q9 := q3.since (hS.trans hS8); have hT8 := (hT7.trans hS).trans hS8; clear d1 d2 d3 tok2 _t; obtain ⟨d1, d2, d3⟩ := id q9) | (go_at_call 45; (with_reducible refine (HA2.out _).mono ?_); rintro e w9 ⟨rfl, hS9⟩; have hT9 := hT8.trans hS9))
        go_ret
        exact ⟨by first | rfl | simp, hT9⟩
end Go.Proofs.Ytdbenpncnkfliaa
