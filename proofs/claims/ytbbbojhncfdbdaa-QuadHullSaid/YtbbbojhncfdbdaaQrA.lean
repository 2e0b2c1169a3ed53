/-
  Layer 13: the reference's Good, Power, point, near, Abs, Down, walked.
-/
import Derived.Test.YtbbbojhncfdbdaaQuC
namespace Go.Proofs.Ytbbbojhncfdbdaa
open Go.RowKit
set_option linter.unusedVariables false

set_option maxHeartbeats 4000000 in
theorem rq_good (s : Sg) (w : World) : Calls Try.prog 59 #[s.v] w fun e w' => e = .returned (.bool (inR s)) ∧ Since w w' := by
  have g1 := fun w => rf_good s.ax s.ay w
  have g2 := fun w => rf_good s.bx s.bz w
  have g3 := fun w => rf_good s.cx s.cy w
  have hN := fun w b hb t => seg_new w b hb s t
  obtain ⟨ax, ay, cx, cy, bx, bz, k⟩ := s
  unfold inR Sg.v
  unfold Pt at *
  simp only at *
  generalize goodB ax ay = G1 at *
  generalize goodB bx bz = G2 at *
  generalize goodB cx cy = G3 at *
  have H1 := Lib.hid g1
  have H2 := Lib.hid g2
  have H3 := Lib.hid g3
  have HN := Lib.hid hN
  clear g1 g2 g3 hN
  cases G1 <;> cases G2 <;> cases k
  all_goals
    go_enter Try.func59, Try.ntmps59
    go_wp2_with (first | (go_at_call 16; (with_reducible refine (H1.out _).mono ?_); rintro e w1 ⟨rfl, hS1⟩; have hX1 := (HN.out w _ rfl _).since hS1; have hS : Since w w1 := (by (repeat (first | with_reducible (exact Since.refl _) | with_reducible assumption | with_reducible (refine Since.drew ?_) | with_reducible (refine Since.drewN ?_ _) | with_reducible (refine Since.alloc ?_ _) | (with_reducible (refine Since.setCell ?_ ?_ _); rotate_left; focus (first | (simp; done) | (simp; omega) | omega)) | (with_reducible (refine Since.trans ?_ (by with_reducible assumption)))))); clear hS1; have hX2 := hX1; obtain ⟨s1, s2, s3, s4, s5, s6, s7, s8⟩ := hX2; simp only at s1 s2 s3 s4 s5 s6 s7) | (go_at_call 16; (with_reducible refine (H2.out _).mono ?_); rintro e w2 ⟨rfl, hS2⟩; have hX3 := hX1.since hS2; have hS3 : Since w w2 := (by (repeat (first | with_reducible (exact Since.refl _) | with_reducible assumption | with_reducible (refine Since.drew ?_) | with_reducible (refine Since.drewN ?_ _) | with_reducible (refine Since.alloc ?_ _) | (with_reducible (refine Since.setCell ?_ ?_ _); rotate_left; focus (first | (simp; done) | (simp; omega) | omega)) | (with_reducible (refine Since.trans ?_ (by with_reducible assumption)))))); clear s1 s2 s3 s4 s5 s6 s7 s8 hS2 hX1 hS; obtain ⟨s1, s2, s3, s4, s5, s6, s7, s8⟩ := hX3; simp only at s1 s2 s3 s4 s5 s6 s7) | (go_at_call 16; (with_reducible refine (H3.out _).mono ?_); rintro e w3 ⟨rfl, hS4⟩; have hS5 : Since w w3 := (by (repeat (first | with_reducible (exact Since.refl _) | with_reducible assumption | with_reducible (refine Since.drew ?_) | with_reducible (refine Since.drewN ?_ _) | with_reducible (refine Since.alloc ?_ _) | (with_reducible (refine Since.setCell ?_ ?_ _); rotate_left; focus (first | (simp; done) | (simp; omega) | omega)) | (with_reducible (refine Since.trans ?_ (by with_reducible assumption))))))))
    go_ret
    exact ⟨by first | rfl | simp, by (repeat (first | with_reducible (exact Since.refl _) | with_reducible assumption | with_reducible (refine Since.drew ?_) | with_reducible (refine Since.drewN ?_ _) | with_reducible (refine Since.alloc ?_ _) | (with_reducible (refine Since.setCell ?_ ?_ _); rotate_left; focus (first | (simp; done) | (simp; omega) | omega)) | (with_reducible (refine Since.trans ?_ (by with_reducible assumption)))))⟩

set_option maxHeartbeats 4000000 in
theorem rq_power (b n : Int) (h1 : 2 ≤ b) (h2 : b ≤ 4) (h3 : 0 ≤ n) (h4 : n ≤ 10) (w : World) :
    Calls Try.prog 58 #[.int .i64 b, .int .i64 n] w fun e w' => e = .returned (.int .i64 (b ^ n.toNat)) ∧ Since w w' := by
  obtain ⟨m, rfl⟩ := Int.eq_ofNat_of_zero_le h3
  rw [Int.toNat_natCast]
  have hpow : ∀ j : Nat, j ≤ m → 0 ≤ b ^ j ∧ b ^ j ≤ 1048576 := by
    intro j hj
    have hb : b = 2 ∨ b = 3 ∨ b = 4 := by omega
    have hm : j = 0 ∨ j = 1 ∨ j = 2 ∨ j = 3 ∨ j = 4 ∨ j = 5 ∨ j = 6 ∨ j = 7 ∨ j = 8 ∨ j = 9 ∨ j = 10 := by omega
    rcases hb with rfl | rfl | rfl <;> rcases hm with rfl | rfl | rfl | rfl | rfl | rfl | rfl | rfl | rfl | rfl | rfl <;> decide
  have HP := Lib.hid hpow
  clear hpow
  go_enter Try.func58, Try.ntmps58
  go_wp2
  go_loop [5, 6] (fun x y => ∃ j : Nat, j ≤ m ∧ x = .int .i64 (b ^ j) ∧ y = .int .i64 (j : Int)) (fun _ y => m - (intOf y).toNat)
  case atStart => exact ⟨0, by omega, by simp, rfl⟩
  case round =>
    obtain ⟨j, hj, rfl, rfl⟩ := hrel
    by_cases hjm : j < m
    · have hjm' : (j : Int) < m := by omega
      have e1 := HP.out (j + 1) (by omega)
      have e2 := HP.out j (by omega)
      have w1 : IntKind.i64.wrap (b ^ j * b) = b ^ j * b := IntWalk.i64_in _ (by rw [Int.pow_succ] at e1; omega)
      clear e1 e2
      go_wp2
      go_round
      case rel => exact ⟨j + 1, by omega, by rw [Int.pow_succ], by go_num⟩
      case measure => simp [intOf]; omega
    · obtain rfl : j = m := by omega
      go_wp2
      go_ret
      exact ⟨rfl, by (repeat (first | with_reducible (exact Since.refl _) | with_reducible assumption | with_reducible (refine Since.drew ?_) | with_reducible (refine Since.drewN ?_ _) | with_reducible (refine Since.alloc ?_ _) | (with_reducible (refine Since.setCell ?_ ?_ _); rotate_left; focus (first | (simp; done) | (simp; omega) | omega)) | (with_reducible (refine Since.trans ?_ (by with_reducible assumption)))))⟩

def PtOK (x y z a c b : Int) : Prop := IntKind.i64.wrap (a * x) = a * x ∧ IntKind.i64.wrap (c * y) = c * y ∧ IntKind.i64.wrap (a * x + c * y) = a * x + c * y ∧ IntKind.i64.wrap (b * z) = b * z ∧ IntKind.i64.wrap (a * x + c * y + b * z) = a * x + c * y + b * z
set_option maxHeartbeats 4000000 in
theorem rq_point (s : Sg) (a c b : Int) (h : PtOK s.ax s.cx s.bx a c b) (h' : PtOK s.ay s.cy s.bz a c b) (w : World) :
    Calls Try.prog 60 #[s.v, .int .i64 a, .int .i64 c, .int .i64 b] w fun e w' => e = .returned (Pt (a * s.ax + c * s.cx + b * s.bx) (a * s.ay + c * s.cy + b * s.bz)) ∧ Since w w' := by
  obtain ⟨ax, ay, cx, cy, bx, bz, k⟩ := s
  obtain ⟨u1, u2, u3, u4, u5⟩ := h
  obtain ⟨v1, v2, v3, v4, v5⟩ := h'
  unfold Pt Sg.v
  simp only at *
  go_enter Try.func60, Try.ntmps60
  go_wp2
  refine bodyPost_ret (by simp only [results, Try.results60]; go_simp) rfl ⟨rfl, ?_⟩
  (repeat (first | with_reducible (exact Since.refl _) | with_reducible assumption | with_reducible (refine Since.drew ?_) | with_reducible (refine Since.drewN ?_ _) | with_reducible (refine Since.alloc ?_ _) | (with_reducible (refine Since.setCell ?_ ?_ _); rotate_left; focus (first | (simp; done) | (simp; omega) | omega)) | (with_reducible (refine Since.trans ?_ (by with_reducible assumption)))))

theorem rq_abs (x : Int) (h1 : -1152921504606846976 ≤ x) (h2 : x ≤ 1152921504606846976) (w : World) :
    Calls Try.prog 69 #[.int .i64 x] w fun e w' => e = .returned (.int .i64 (if x < 0 then -x else x)) ∧ Since w w' := by
  have w1 : IntKind.i64.wrap (-x) = -x := IntWalk.i64_in _ (by omega)
  by_cases hx : x < 0
  all_goals
    go_enter Try.func69, Try.ntmps69
    go_wp2
    go_ret
    exact ⟨by simp, by (repeat (first | with_reducible (exact Since.refl _) | with_reducible assumption | with_reducible (refine Since.drew ?_) | with_reducible (refine Since.drewN ?_ _) | with_reducible (refine Since.alloc ?_ _) | (with_reducible (refine Since.setCell ?_ ?_ _); rotate_left; focus (first | (simp; done) | (simp; omega) | omega)) | (with_reducible (refine Since.trans ?_ (by with_reducible assumption)))))⟩

theorem down_num (n d : Int) (hd : 0 < d) : n / d = if n.tmod d < 0 then n.tdiv d - 1 else n.tdiv d := by
  rw [Int.tdiv_eq_ediv, Int.tmod_eq_emod]
  have h1 := Int.emod_nonneg n (show d ≠ 0 by omega)
  have h2 := Int.emod_lt_of_pos n hd
  have hs : d.sign = 1 := Int.sign_eq_one_of_pos hd
  have hna : (d.natAbs : Int) = d := by omega
  have hdv : d ∣ n ↔ n % d = 0 := Int.dvd_iff_emod_eq_zero
  by_cases h : 0 ≤ n ∨ d ∣ n
  · rw [if_pos h, if_pos h]
    split <;> omega
  · rw [if_neg h, if_neg h, hs, hna]
    rw [if_pos (by omega)]
    omega
theorem rq_down (n d : Int) (hd : 0 < d) (hd' : d ≤ 4611686018427387904) (hn : -4611686018427387904 ≤ n ∧ n ≤ 4611686018427387904) (w : World) :
    Calls Try.prog 61 #[.int .i64 n, .int .i64 d] w fun e w' => e = .returned (.int .i64 (n / d)) ∧ Since w w' := by
  have e1 := down_num n d hd
  have hb : -4611686018427387904 ≤ n.tdiv d ∧ n.tdiv d ≤ 4611686018427387904 := by
    have h : (n.tdiv d).natAbs ≤ n.natAbs := by rw [Int.natAbs_tdiv]; exact Nat.div_le_self _ _
    omega
  have w1 : IntKind.i64.wrap (n.tdiv d) = n.tdiv d := IntWalk.i64_in _ (by omega)
  have w2 : IntKind.i64.wrap (n.tdiv d - 1) = n.tdiv d - 1 := IntWalk.i64_in _ (by omega)
  have hd0 : ¬ d = 0 := by omega
  rw [e1]
  clear hb e1
  by_cases hm : n.tmod d < 0
  all_goals
    go_enter Try.func61, Try.ntmps61
    go_wp2
    go_ret
    exact ⟨by simp, by (repeat (first | with_reducible (exact Since.refl _) | with_reducible assumption | with_reducible (refine Since.drew ?_) | with_reducible (refine Since.drewN ?_ _) | with_reducible (refine Since.alloc ?_ _) | (with_reducible (refine Since.setCell ?_ ?_ _); rotate_left; focus (first | (simp; done) | (simp; omega) | omega)) | (with_reducible (refine Since.trans ?_ (by with_reducible assumption)))))⟩
end Go.Proofs.Ytbbbojhncfdbdaa
