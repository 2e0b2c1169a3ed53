/-
  Layer 22: 'share', walked.
-/
import Derived.Test.YtckochcocflleaaArA
namespace Go.Proofs.Ytckochcocflleaa
open Go.RowKit
set_option linter.unusedVariables false

theorem wide_rootI (a : Int) (ha : In128 a) (hn : 0 ≤ a) (w : World) : Calls Try.prog 53 #[W a] w fun e w' => e = .returned (.tuple #[.int .u64 (rootI a), .int .i64 0]) ∧ Since w w' := by
  refine (wide_root a ha hn w).mono ?_
  rintro e w' ⟨r, h1, _, rfl, hS⟩
  rw [rootI_eq h1]
  exact ⟨rfl, hS⟩
theorem dbl_in {p r : Int} (hp : -8388608 ≤ p ∧ p ≤ 8388608) (hr : 1 ≤ r ∧ r ≤ 262144) : (-16777216 ≤ 2 * p ∧ 2 * p ≤ 16777216) ∧ (-4398046511104 ≤ 2 * p * r ∧ 2 * p * r ≤ 4398046511104) := by
  have h1 : 2 * p * r ≤ 16777216 * r := Int.mul_le_mul_of_nonneg_right (by omega) (by omega)
  have h2 : -16777216 * r ≤ 2 * p * r := Int.mul_le_mul_of_nonneg_right (by omega) (by omega)
  omega
theorem sqr_in {x : Int} (h : -4398046511104 ≤ x ∧ x ≤ 4398046511104) : 0 ≤ x * x ∧ x * x ≤ 19342813113834066795298816 := by
  refine ⟨sq_nn x, ?_⟩
  rcases Int.le_total 0 x with k | k
  · exact Int.mul_le_mul h.2 h.2 k (by omega)
  · have := Int.mul_le_mul (show -x ≤ 4398046511104 by omega) (show -x ≤ 4398046511104 by omega) (by omega) (by omega)
    rw [Int.neg_mul_neg] at this
    exact this
set_option maxRecDepth 100000 in
set_option maxHeartbeats 8000000 in
theorem ar_share (p r sq : Int) (hp : -8388608 ≤ p ∧ p ≤ 8388608) (hr : 1 ≤ r ∧ r ≤ 262144) (hs : 1 ≤ sq ∧ sq ≤ 9223372036854775807) (hpp : p * p ≤ sq) (w : World) :
    Calls Try.prog 73 #[.int .i64 p, .int .i64 r, .int .i64 sq] w fun e w' => e = .returned (.int .i64 (shrI p r sq)) ∧ Since w w' := by
  obtain ⟨d1, d2⟩ := dbl_in hp hr
  obtain ⟨d3, d4⟩ := sqr_in d2
  have hM := fun w => wide_mul (2 * p * r) (2 * p * r) (by unfold InW; omega) (by unfold InW; omega) w
  have hD := fun w => wide_div (2 * p * r * (2 * p * r)) sq (by unfold In128; omega) (by unfold InW; omega) hs.1 w
  obtain ⟨q0, r0, r1⟩ := root_le (by omega : 0 ≤ r) hs.1 hpp
  have hq1 : 2 * p * r * (2 * p * r) / sq ≤ 2 * p * r * (2 * p * r) := Int.ediv_le_self _ d3
  have hR := fun w => wide_rootI (2 * p * r * (2 * p * r) / sq) (by unfold In128; omega) q0 w
  unfold shrI
  have u1 : IntKind.i64.wrap (2 * p) = 2 * p := IntWalk.i64_in _ (by omega)
  have u2 : IntKind.i64.wrap (2 * p * r) = 2 * p * r := IntWalk.i64_in _ (by omega)
  generalize rootI (2 * p * r * (2 * p * r) / sq) = R at *
  generalize 2 * p * r * (2 * p * r) / sq = Q at *
  generalize 2 * p * r * (2 * p * r) % sq = T at *
  generalize 2 * p * r * (2 * p * r) = P at *
  have u3 : IntKind.u64.wrap (R + 1) = R + 1 := by rw [IntKind.wrap_u64]; omega
  have u4 : IntKind.i64.wrap (R + 1) = R + 1 := IntWalk.i64_in _ (by omega)
  have u5 : (R + 1).tdiv 2 = (R + 1) / 2 := Int.tdiv_eq_ediv_of_nonneg (by omega)
  have u6 : IntKind.i64.wrap ((R + 1) / 2) = (R + 1) / 2 := IntWalk.i64_in _ (by omega)
  have u7 : IntKind.i64.wrap (-((R + 1) / 2)) = -((R + 1) / 2) := IntWalk.i64_in _ (by omega)
  have u8 : wrap64 ((R + 1) / 2) = (R + 1) / 2 := by unfold wrap64; omega
  have HM := Lib.hid hM
  have HD := Lib.hid hD
  have HR := Lib.hid hR
  clear hM hD hR d1 d2 d3 d4 q0 hq1 hpp
  by_cases hn : p < 0
  · rw [if_pos hn]
    have hd : decide (p < 0) = true := by simp [hn]
    go_enter Try.func73, Try.ntmps73
    go_wp2_with (first | (go_at_call 18; (with_reducible refine (HM.out _).mono ?_); rintro e w1 ⟨rfl, hS1⟩) | (go_at_call 51; (with_reducible refine (HD.out _).mono ?_); rintro e w2 ⟨rfl, hS2⟩) | (go_at_call 53; (with_reducible refine (HR.out _).mono ?_); rintro e w3 ⟨rfl, hS3⟩))
    go_ret
    exact ⟨rfl, by (repeat (first | with_reducible (exact Since.refl _) | with_reducible assumption | with_reducible (refine Since.drew ?_) | with_reducible (refine Since.drewN ?_ _) | with_reducible (refine Since.alloc ?_ _) | (with_reducible (refine Since.setCell ?_ ?_ _); rotate_left; focus (first | (simp; done) | (simp; omega) | omega)) | (with_reducible (refine Since.trans ?_ (by with_reducible assumption)))))⟩
  · rw [if_neg hn]
    have hd : decide (p < 0) = false := by simp; omega
    go_enter Try.func73, Try.ntmps73
    go_wp2_with (first | (go_at_call 18; (with_reducible refine (HM.out _).mono ?_); rintro e w1 ⟨rfl, hS1⟩) | (go_at_call 51; (with_reducible refine (HD.out _).mono ?_); rintro e w2 ⟨rfl, hS2⟩) | (go_at_call 53; (with_reducible refine (HR.out _).mono ?_); rintro e w3 ⟨rfl, hS3⟩))
    go_ret
    exact ⟨rfl, by (repeat (first | with_reducible (exact Since.refl _) | with_reducible assumption | with_reducible (refine Since.drew ?_) | with_reducible (refine Since.drewN ?_ _) | with_reducible (refine Since.alloc ?_ _) | (with_reducible (refine Since.setCell ?_ ?_ _); rotate_left; focus (first | (simp; done) | (simp; omega) | omega)) | (with_reducible (refine Since.trans ?_ (by with_reducible assumption)))))⟩
end Go.Proofs.Ytckochcocflleaa
