/-
  Layer 22: the small functions of the laws, walked.
-/
import Derived.Test.YtckochcocflleaaArN
namespace Go.Proofs.Ytckochcocflleaa
open Go.RowKit Go.ChangeShapes Go.WideShapes Go.Deep
set_option linter.unusedVariables false

def wX (x y : Int) : Int := if x / 256 = 0 ∧ y / 256 = 0 then 1 else x / 256
def lenR (r : Int) : Int := 1 + r % 262144
theorem wX_in {x y : Int} (hx : -2147483648 ≤ x ∧ x ≤ 2147483647) : -8388608 ≤ wX x y ∧ wX x y ≤ 8388607 := by unfold wX; split <;> omega
theorem wX_nz (x y : Int) : ¬ (wX x y = 0 ∧ y / 256 = 0) := by unfold wX; split <;> omega
set_option maxHeartbeats 4000000 in
theorem law22_way (x y : Int) (hx : -2147483648 ≤ x ∧ x ≤ 2147483647) (hy : -2147483648 ≤ y ∧ y ≤ 2147483647) (w : World) :
    Calls Try.prog 43 #[.int .i32 x, .int .i32 y] w fun e w' => e = .returned (Pt (wX x y) (y / 256)) ∧ Since w w' := by
  have wx : IntKind.i64.wrap x = x := IntWalk.i64_in _ (by omega)
  have wy : IntKind.i64.wrap y = y := IntWalk.i64_in _ (by omega)
  have vx : IntKind.i64.wrap (x / 256) = x / 256 := IntWalk.i64_in _ (by omega)
  have vy : IntKind.i64.wrap (y / 256) = y / 256 := IntWalk.i64_in _ (by omega)
  unfold Pt
  by_cases h : x / 256 = 0 ∧ y / 256 = 0
  · have e : wX x y = 1 := by unfold wX; rw [if_pos h]
    obtain ⟨h1, h2⟩ := h
    rw [e, h2]
    rw [h1] at vx
    rw [h2] at vy
    clear e
    go_enter Try.func43, Try.ntmps43
    go_wp2
    refine bodyPost_ret (by simp only [results, Try.results43]; go_simp) rfl ⟨rfl, ?_⟩
    (repeat (first | with_reducible (exact Since.refl _) | with_reducible assumption | with_reducible (refine Since.drew ?_) | with_reducible (refine Since.drewN ?_ _) | with_reducible (refine Since.alloc ?_ _) | (with_reducible (refine Since.setCell ?_ ?_ _); rotate_left; focus (first | (simp; done) | (simp; omega) | omega)) | (with_reducible (refine Since.trans ?_ (by with_reducible assumption)))))
  · have e : wX x y = x / 256 := by unfold wX; rw [if_neg h]
    rw [e]
    clear e
    by_cases h0 : x / 256 = 0
    · have q2 : (y / 256 == 0) = false := by simp; omega
      have q3 : ¬ y / 256 = 0 := by omega
      rw [h0] at vx ⊢
      clear h
      go_enter Try.func43, Try.ntmps43
      go_wp2
      refine bodyPost_ret (by simp only [results, Try.results43]; go_simp) rfl ⟨rfl, ?_⟩
      (repeat (first | with_reducible (exact Since.refl _) | with_reducible assumption | with_reducible (refine Since.drew ?_) | with_reducible (refine Since.drewN ?_ _) | with_reducible (refine Since.alloc ?_ _) | (with_reducible (refine Since.setCell ?_ ?_ _); rotate_left; focus (first | (simp; done) | (simp; omega) | omega)) | (with_reducible (refine Since.trans ?_ (by with_reducible assumption)))))
    · have q2 : (x / 256 == 0) = false := by simp; omega
      clear h
      go_enter Try.func43, Try.ntmps43
      go_wp2
      refine bodyPost_ret (by simp only [results, Try.results43]; go_simp) rfl ⟨rfl, ?_⟩
      (repeat (first | with_reducible (exact Since.refl _) | with_reducible assumption | with_reducible (refine Since.drew ?_) | with_reducible (refine Since.drewN ?_ _) | with_reducible (refine Since.alloc ?_ _) | (with_reducible (refine Since.setCell ?_ ?_ _); rotate_left; focus (first | (simp; done) | (simp; omega) | omega)) | (with_reducible (refine Since.trans ?_ (by with_reducible assumption)))))
set_option maxHeartbeats 1000000 in
theorem law22_length (r : Int) (hr : 0 ≤ r ∧ r ≤ 4294967295) (w : World) : Calls Try.prog 44 #[.int .u32 r] w fun e w' => e = .returned (.int .i64 (lenR r)) ∧ Since w w' := by
  have x4 : r.tmod 262144 = r % 262144 := Int.tmod_eq_emod_of_nonneg hr.1
  have u1 : IntKind.u32.wrap (r % 262144) = r % 262144 := by rw [IntKind.wrap_u32]; omega
  have u2 : IntKind.i64.wrap (r % 262144) = r % 262144 := IntWalk.i64_in _ (by omega)
  have u3 : IntKind.i64.wrap (1 + r % 262144) = 1 + r % 262144 := IntWalk.i64_in _ (by omega)
  unfold lenR
  go_enter Try.func44, Try.ntmps44
  go_wp2
  go_ret
  exact ⟨by first | rfl | simp, by (repeat (first | with_reducible (exact Since.refl _) | with_reducible assumption | with_reducible (refine Since.drew ?_) | with_reducible (refine Since.drewN ?_ _) | with_reducible (refine Since.alloc ?_ _) | (with_reducible (refine Since.setCell ?_ ?_ _); rotate_left; focus (first | (simp; done) | (simp; omega) | omega)) | (with_reducible (refine Since.trans ?_ (by with_reducible assumption)))))⟩
set_option maxHeartbeats 1000000 in
theorem law22_square (a b : Int) (ha : -8388608 ≤ a ∧ a ≤ 8388608) (hb : -8388608 ≤ b ∧ b ≤ 8388608) (w : World) : Calls Try.prog 45 #[.int .i64 a, .int .i64 b] w fun e w' => e = .returned (.int .i64 (a * a + b * b)) ∧ Since w w' := by
  have sq : ∀ z : Int, -8388608 ≤ z → z ≤ 8388608 → 0 ≤ z * z ∧ z * z ≤ 70368744177664 := fun z k1 k2 => by
    refine ⟨sq_nn z, ?_⟩
    rcases Int.le_total 0 z with k | k
    · exact Int.mul_le_mul k2 k2 k (by omega)
    · have := Int.mul_le_mul (show -z ≤ 8388608 by omega) (show -z ≤ 8388608 by omega) (by omega) (by omega)
      rw [Int.neg_mul_neg] at this
      exact this
  have h1 := sq a ha.1 ha.2
  have h2 := sq b hb.1 hb.2
  have u1 : IntKind.i64.wrap (a * a) = a * a := IntWalk.i64_in _ (by omega)
  have u2 : IntKind.i64.wrap (b * b) = b * b := IntWalk.i64_in _ (by omega)
  have u3 : IntKind.i64.wrap (a * a + b * b) = a * a + b * b := IntWalk.i64_in _ (by omega)
  clear sq h1 h2
  go_enter Try.func45, Try.ntmps45
  go_wp2
  go_ret
  exact ⟨by first | rfl | simp, by (repeat (first | with_reducible (exact Since.refl _) | with_reducible assumption | with_reducible (refine Since.drew ?_) | with_reducible (refine Since.drewN ?_ _) | with_reducible (refine Since.alloc ?_ _) | (with_reducible (refine Since.setCell ?_ ?_ _); rotate_left; focus (first | (simp; done) | (simp; omega) | omega)) | (with_reducible (refine Since.trans ?_ (by with_reducible assumption)))))⟩
end Go.Proofs.Ytckochcocflleaa
