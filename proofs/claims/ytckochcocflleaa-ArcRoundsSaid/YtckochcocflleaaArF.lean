/-
  Layer 22: 'Steps', both; 'Along', 'Normal', the document's 'Along', walked.
-/
import Derived.Test.YtckochcocflleaaArE
import Derived.Deep.CutBlock
import Derived.Deep.DeepCutAuto
namespace Go.Proofs.Ytckochcocflleaa
open Go.RowKit
set_option linter.unusedVariables false

def stpW (r : Int) : Nat → Int → Int
  | 0, m => m
  | f + 1, m => if 384 * m * m < r then stpW r f (m + 1) else m
/-- How finely a round is cut. -/
def stpI (r : Int) : Int := if lenB r then stpW r 30 1 else 0
theorem stp_more {r m : Int} (hr : r ≤ 262144) (h1 : 1 ≤ m) (h2 : m ≤ 27) (h : 384 * m * m < r) : m ≤ 26 := by
  rcases Int.lt_or_le 26 m with k | k
  · obtain rfl : m = 27 := by omega
    omega
  · exact k
theorem stpW_in {r : Int} (hr : r ≤ 262144) : ∀ (f : Nat) (m : Int), 1 ≤ m → m ≤ 27 → 27 ≤ m + f → 1 ≤ stpW r f m ∧ stpW r f m ≤ 27
  | 0, m, h1, h2, h3 => ⟨h1, h2⟩
  | f + 1, m, h1, h2, h3 => by
    unfold stpW
    split
    · rename_i h
      have := stp_more hr h1 h2 h
      exact stpW_in hr f (m + 1) (by omega) (by omega) (by omega)
    · exact ⟨h1, h2⟩
theorem stpI_in {r : Int} (h : lenB r = true) : 1 ≤ stpI r ∧ stpI r ≤ 27 := by
  unfold stpI
  rw [h]
  exact stpW_in (lenB_iff.1 h).2 30 1 (by omega) (by omega) (by omega)
theorem stp_sq {m : Int} (h1 : 1 ≤ m) (h2 : m ≤ 27) : 384 ≤ 384 * m * m ∧ 384 * m * m ≤ 279936 := by
  have a : m * m ≤ 27 * 27 := Int.mul_le_mul h2 h2 (by omega) (by omega)
  have b : 1 * 1 ≤ m * m := Int.mul_le_mul h1 h1 (by omega) (by omega)
  rw [Int.mul_assoc]
  omega
set_option maxHeartbeats 4000000 in
theorem ar_steps (r : Int) (w : World) : Calls Try.prog 38 #[.int .i64 r] w fun e w' => e = .returned (.int .i64 (stpI r)) ∧ Since w w' := by
  have hL := fun w => ar_length r w
  cases h : lenB r
  · have e : stpI r = 0 := by unfold stpI; rw [h]; rfl
    rw [e]
    rw [h] at hL
    go_enter Try.func38, Try.ntmps38
    go_wp2_with (go_at_call 72; (with_reducible refine (hL _).mono ?_); rintro e w1 ⟨rfl, hS1⟩)
    go_ret
    exact ⟨rfl, by (repeat (first | with_reducible (exact Since.refl _) | with_reducible assumption | with_reducible (refine Since.drew ?_) | with_reducible (refine Since.drewN ?_ _) | with_reducible (refine Since.alloc ?_ _) | (with_reducible (refine Since.setCell ?_ ?_ _); rotate_left; focus (first | (simp; done) | (simp; omega) | omega)) | (with_reducible (refine Since.trans ?_ (by with_reducible assumption)))))⟩
  · obtain ⟨r0, r1⟩ := lenB_iff.1 h
    obtain ⟨M, hM⟩ : ∃ M, M = stpI r := ⟨_, rfl⟩
    rw [← hM]
    have HM := Lib.hid (show stpW r 30 1 = M by rw [hM]; unfold stpI; rw [h]; rfl)
    rw [h] at hL
    clear hM h
    go_enter Try.func38, Try.ntmps38
    go_wp2_with (go_at_call 72; (with_reducible refine (hL _).mono ?_); rintro e w1 ⟨rfl, hS1⟩)
    go_loopw [3] (fun y wr => ∃ (m : Int) (f : Nat), 1 ≤ m ∧ m ≤ 27 ∧ 27 ≤ m + f ∧ y = .int .i64 m ∧ Hid (stpW r f m = M) ∧ Since w wr) (fun y _ => (28 - intOf y).toNat)
    case atStart => exact ⟨1, 30, by omega, by omega, by omega, rfl, HM, hS1⟩
    case round =>
      obtain ⟨m, f, h1, h2, h3, rfl, H, hSr⟩ := hrel
      obtain ⟨q1, q2⟩ := stp_sq h1 h2
      have u1 : IntKind.i64.wrap (384 * m) = 384 * m := IntWalk.i64_in _ (by omega)
      have u2 : IntKind.i64.wrap (384 * m * m) = 384 * m * m := IntWalk.i64_in _ (by omega)
      have u3 : IntKind.i64.wrap (m + 1) = m + 1 := IntWalk.i64_in _ (by omega)
      by_cases hlt : 384 * m * m < r
      · have hm := stp_more r1 h1 h2 hlt
        have hd : decide (384 * m * m < r) = true := by simp [hlt]
        cases f with
        | zero => exact absurd h3 (by omega)
        | succ f =>
          have H2 := Lib.hid (show stpW r f (m + 1) = M by rw [← H.out]; conv => rhs; unfold stpW; rw [if_pos hlt])
          clear H hlt q1 q2 HM
          go_wp2_with fail
          go_roundw
          case rel => exact ⟨m + 1, f, by omega, by omega, by omega, rfl, H2, hSr⟩
          case measure => simp [intOf]; omega
      · have hd : decide (384 * m * m < r) = false := by simp; omega
        have H2 := Lib.hid (show m = M by rw [← H.out]; cases f with | zero => rfl | succ f => unfold stpW; rw [if_neg hlt])
        clear H hlt q1 q2 HM
        go_wp2_with fail
        go_ret
        exact ⟨by rw [H2.out]; rfl, hSr⟩
set_option maxHeartbeats 4000000 in
theorem rf_steps (r : Int) (w : World) : Calls Try.prog 39 #[.int .i64 r] w fun e w' => e = .returned (.int .i64 (stpI r)) ∧ Since w w' := by
  have hL := fun w => rf_length r w
  cases h : lenB r
  · have e : stpI r = 0 := by unfold stpI; rw [h]; rfl
    rw [e]
    rw [h] at hL
    go_enter Try.func39, Try.ntmps39
    go_wp2_with (go_at_call 40; (with_reducible refine (hL _).mono ?_); rintro e w1 ⟨rfl, hS1⟩)
    go_ret
    exact ⟨rfl, by (repeat (first | with_reducible (exact Since.refl _) | with_reducible assumption | with_reducible (refine Since.drew ?_) | with_reducible (refine Since.drewN ?_ _) | with_reducible (refine Since.alloc ?_ _) | (with_reducible (refine Since.setCell ?_ ?_ _); rotate_left; focus (first | (simp; done) | (simp; omega) | omega)) | (with_reducible (refine Since.trans ?_ (by with_reducible assumption)))))⟩
  · obtain ⟨r0, r1⟩ := lenB_iff.1 h
    obtain ⟨M, hM⟩ : ∃ M, M = stpI r := ⟨_, rfl⟩
    rw [← hM]
    have HM := Lib.hid (show stpW r 30 1 = M by rw [hM]; unfold stpI; rw [h]; rfl)
    rw [h] at hL
    clear hM h
    go_enter Try.func39, Try.ntmps39
    go_wp2_with (go_at_call 40; (with_reducible refine (hL _).mono ?_); rintro e w1 ⟨rfl, hS1⟩)
    go_loopw [3] (fun y wr => ∃ (m : Int) (f : Nat), 1 ≤ m ∧ m ≤ 27 ∧ 27 ≤ m + f ∧ y = .int .i64 m ∧ Hid (stpW r f m = M) ∧ Since w wr) (fun y _ => (28 - intOf y).toNat)
    case atStart => exact ⟨1, 30, by omega, by omega, by omega, rfl, HM, hS1⟩
    case round =>
      obtain ⟨m, f, h1, h2, h3, rfl, H, hSr⟩ := hrel
      obtain ⟨q1, q2⟩ := stp_sq h1 h2
      have u1 : IntKind.i64.wrap (384 * m) = 384 * m := IntWalk.i64_in _ (by omega)
      have u2 : IntKind.i64.wrap (384 * m * m) = 384 * m * m := IntWalk.i64_in _ (by omega)
      have u3 : IntKind.i64.wrap (m + 1) = m + 1 := IntWalk.i64_in _ (by omega)
      by_cases hlt : 384 * m * m < r
      · have hm := stp_more r1 h1 h2 hlt
        have hd : decide (384 * m * m < r) = true := by simp [hlt]
        cases f with
        | zero => exact absurd h3 (by omega)
        | succ f =>
          have H2 := Lib.hid (show stpW r f (m + 1) = M by rw [← H.out]; conv => rhs; unfold stpW; rw [if_pos hlt])
          clear H hlt q1 q2 HM
          go_wp2_with fail
          go_roundw
          case rel => exact ⟨m + 1, f, by omega, by omega, by omega, rfl, H2, hSr⟩
          case measure => simp [intOf]; omega
      · have hd : decide (384 * m * m < r) = false := by simp; omega
        have H2 := Lib.hid (show m = M by rw [← H.out]; cases f with | zero => rfl | succ f => unfold stpW; rw [if_neg hlt])
        clear H hlt q1 q2 HM
        go_wp2_with fail
        go_ret
        exact ⟨by rw [H2.out]; rfl, hSr⟩

theorem way_sq {x y : Int} (h : wayB x y = true) (hn : ¬ (x = 0 ∧ y = 0)) : (1 ≤ x * x + y * y ∧ x * x + y * y ≤ 140737488355328) ∧ (0 ≤ x * x ∧ x * x ≤ 70368744177664) ∧ (0 ≤ y * y ∧ y * y ≤ 70368744177664) ∧ x * x ≤ x * x + y * y ∧ y * y ≤ x * x + y * y := by
  obtain ⟨h1, h2, h3, h4⟩ := wayB_iff.1 h
  have a := sq_pos_of hn
  have sq : ∀ z : Int, -8388608 ≤ z → z ≤ 8388608 → 0 ≤ z * z ∧ z * z ≤ 70368744177664 := fun z k1 k2 => by
    refine ⟨sq_nn z, ?_⟩
    rcases Int.le_total 0 z with k | k
    · exact Int.mul_le_mul k2 k2 k (by omega)
    · have := Int.mul_le_mul (show -z ≤ 8388608 by omega) (show -z ≤ 8388608 by omega) (by omega) (by omega)
      rw [Int.neg_mul_neg] at this
      exact this
  have b := sq x h1 h2
  have c := sq y h3 h4
  omega
end Go.Proofs.Ytckochcocflleaa
