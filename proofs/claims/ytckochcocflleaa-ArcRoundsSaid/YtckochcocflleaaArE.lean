/-
  Layer 22: 'Along', 'Normal', 'Steps' and the document's, walked.
-/
import Derived.Test.YtckochcocflleaaArB
import Derived.Test.YtckochcocflleaaArD
import Derived.Test.YtckochcocflleaaKitB
namespace Go.Proofs.Ytckochcocflleaa
open Go.RowKit
set_option linter.unusedVariables false

def lenB (r : Int) : Bool := decide (1 ≤ r ∧ r ≤ 262144)
def wayB (x y : Int) : Bool := decide (-8388608 ≤ x ∧ x ≤ 8388608 ∧ -8388608 ≤ y ∧ y ≤ 8388608)
theorem lenB_iff {r : Int} : lenB r = true ↔ 1 ≤ r ∧ r ≤ 262144 := by unfold lenB; simp
theorem wayB_iff {x y : Int} : wayB x y = true ↔ (-8388608 ≤ x ∧ x ≤ 8388608 ∧ -8388608 ≤ y ∧ y ≤ 8388608) := by unfold wayB; simp
/-- The error of a vector. -/
def alE (x y r : Int) : Int := if lenB r then (if x = 0 ∧ y = 0 then 4 else if wayB x y then 0 else 6) else 2
noncomputable def alXe (x y r : Int) : Int := if alE x y r = 0 then alX x y r else 0
noncomputable def alYe (x y r : Int) : Int := if alE x y r = 0 then alY x y r else 0
theorem alE_len {x y r : Int} (h : lenB r = false) : alE x y r = 2 := by unfold alE; rw [h]; rfl
theorem alE_nil {r : Int} (h : lenB r = true) : alE 0 0 r = 4 := by unfold alE; rw [h]; simp
theorem alE_way {x y r : Int} (h : lenB r = true) (hn : ¬ (x = 0 ∧ y = 0)) (hw : wayB x y = false) : alE x y r = 6 := by unfold alE; rw [h, if_pos rfl, if_neg hn, hw]; rfl
theorem alE_ok {x y r : Int} (h : lenB r = true) (hn : ¬ (x = 0 ∧ y = 0)) (hw : wayB x y = true) : alE x y r = 0 := by unfold alE; rw [h, if_pos rfl, if_neg hn, hw]; rfl
theorem alE_cases (x y r : Int) : (alE x y r = 2 ∧ lenB r = false) ∨ (alE x y r = 4 ∧ lenB r = true ∧ x = 0 ∧ y = 0) ∨ (alE x y r = 6 ∧ lenB r = true ∧ ¬ (x = 0 ∧ y = 0) ∧ wayB x y = false) ∨ (alE x y r = 0 ∧ lenB r = true ∧ ¬ (x = 0 ∧ y = 0) ∧ wayB x y = true) := by
  cases h : lenB r
  · exact .inl ⟨alE_len h, rfl⟩
  · by_cases hn : x = 0 ∧ y = 0
    · obtain ⟨rfl, rfl⟩ := hn
      exact .inr (.inl ⟨alE_nil h, rfl, rfl, rfl⟩)
    · cases hw : wayB x y
      · exact .inr (.inr (.inl ⟨alE_way h hn hw, rfl, hn, rfl⟩))
      · exact .inr (.inr (.inr ⟨alE_ok h hn hw, rfl, hn, rfl⟩))
set_option maxHeartbeats 1000000 in
theorem ar_length (r : Int) (w : World) : Calls Try.prog 72 #[.int .i64 r] w fun e w' => e = .returned (.bool (lenB r)) ∧ Since w w' := by
  by_cases h1 : 1 ≤ r <;> by_cases h2 : r ≤ 262144
  all_goals
    go_enter Try.func72, Try.ntmps72
    go_wp2
    go_ret
    refine ⟨?_, by (repeat (first | with_reducible (exact Since.refl _) | with_reducible assumption | with_reducible (refine Since.drew ?_) | with_reducible (refine Since.drewN ?_ _) | with_reducible (refine Since.alloc ?_ _) | (with_reducible (refine Since.setCell ?_ ?_ _); rotate_left; focus (first | (simp; done) | (simp; omega) | omega)) | (with_reducible (refine Since.trans ?_ (by with_reducible assumption)))))⟩
    first | (simp [lenB]; done) | (simp [lenB]; omega)
set_option maxHeartbeats 1000000 in
theorem rf_length (r : Int) (w : World) : Calls Try.prog 40 #[.int .i64 r] w fun e w' => e = .returned (.bool (lenB r)) ∧ Since w w' := by
  by_cases h1 : 1 ≤ r <;> by_cases h2 : r ≤ 262144
  all_goals
    go_enter Try.func40, Try.ntmps40
    go_wp2
    go_ret
    refine ⟨?_, by (repeat (first | with_reducible (exact Since.refl _) | with_reducible assumption | with_reducible (refine Since.drew ?_) | with_reducible (refine Since.drewN ?_ _) | with_reducible (refine Since.alloc ?_ _) | (with_reducible (refine Since.setCell ?_ ?_ _); rotate_left; focus (first | (simp; done) | (simp; omega) | omega)) | (with_reducible (refine Since.trans ?_ (by with_reducible assumption)))))⟩
    first | (simp [lenB]; done) | (simp [lenB]; omega)
set_option maxHeartbeats 2000000 in
theorem rf_way (x y : Int) (w : World) : Calls Try.prog 74 #[Pt x y] w fun e w' => e = .returned (.bool (wayB x y)) ∧ Since w w' := by
  unfold Pt
  by_cases hy : y ≤ 8388608
  all_goals
    go_enter Try.func74, Try.ntmps74
    go_wp2
    all_goals
      go_ret
      refine ⟨?_, by (repeat (first | with_reducible (exact Since.refl _) | with_reducible assumption | with_reducible (refine Since.drew ?_) | with_reducible (refine Since.drewN ?_ _) | with_reducible (refine Since.alloc ?_ _) | (with_reducible (refine Since.setCell ?_ ?_ _); rotate_left; focus (first | (simp; done) | (simp; omega) | omega)) | (with_reducible (refine Since.trans ?_ (by with_reducible assumption)))))⟩
      first
        | (rw [show wayB x y = true from wayB_iff.2 (by simp_all)]; simp_all; done)
        | (rw [show wayB x y = false by (unfold wayB; rw [decide_eq_false_iff_not]; simp_all; try omega)]; simp_all; done)
set_option maxHeartbeats 1000000 in
theorem rf_left (x y : Int) (hy : -9223372036854775807 ≤ y ∧ y ≤ 9223372036854775807) (w : World) : Calls Try.prog 36 #[Pt x y] w fun e w' => e = .returned (Pt (-y) x) ∧ Since w w' := by
  unfold Pt
  have u1 : IntKind.i64.wrap (-y) = -y := IntWalk.i64_in _ (by omega)
  go_enter Try.func36, Try.ntmps36
  go_wp2
  refine bodyPost_ret (by simp only [results, Try.results36]; go_simp) rfl ⟨rfl, ?_⟩
  (repeat (first | with_reducible (exact Since.refl _) | with_reducible assumption | with_reducible (refine Since.drew ?_) | with_reducible (refine Since.drewN ?_ _) | with_reducible (refine Since.alloc ?_ _) | (with_reducible (refine Since.setCell ?_ ?_ _); rotate_left; focus (first | (simp; done) | (simp; omega) | omega)) | (with_reducible (refine Since.trans ?_ (by with_reducible assumption)))))
set_option maxHeartbeats 4000000 in
theorem rf_errs (x y r : Int) (w : World) : Calls Try.prog 34 #[Pt x y, .int .i64 r] w fun e w' => e = .returned (.int .i64 (alE x y r)) ∧ Since w w' := by
  have hL := fun w => rf_length r w
  have hW := fun w => rf_way x y w
  have hE := fun w => eq_pt w x y 0 0
  unfold Pt at *
  rcases alE_cases x y r with ⟨e, h1⟩ | ⟨e, h1, rfl, rfl⟩ | ⟨e, h1, hn, h2⟩ | ⟨e, h1, hn, h2⟩
  · rw [e]; rw [h1] at hL
    go_enter Try.func34, Try.ntmps34
    go_wp2_with (go_at_call 40; (with_reducible refine (hL _).mono ?_); rintro e w1 ⟨rfl, hS1⟩)
    go_ret
    exact ⟨rfl, by (repeat (first | with_reducible (exact Since.refl _) | with_reducible assumption | with_reducible (refine Since.drew ?_) | with_reducible (refine Since.drewN ?_ _) | with_reducible (refine Since.alloc ?_ _) | (with_reducible (refine Since.setCell ?_ ?_ _); rotate_left; focus (first | (simp; done) | (simp; omega) | omega)) | (with_reducible (refine Since.trans ?_ (by with_reducible assumption)))))⟩
  · rw [e]; rw [h1] at hL
    go_enter Try.func34, Try.ntmps34
    go_wp2_with (go_at_call 40; (with_reducible refine (hL _).mono ?_); rintro e w1 ⟨rfl, hS1⟩; obtain ⟨c1, c2, c3⟩ := (pt_new w _ rfl 0 0 34).since hS1)
    go_ret
    exact ⟨rfl, by (repeat (first | with_reducible (exact Since.refl _) | with_reducible assumption | with_reducible (refine Since.drew ?_) | with_reducible (refine Since.drewN ?_ _) | with_reducible (refine Since.alloc ?_ _) | (with_reducible (refine Since.setCell ?_ ?_ _); rotate_left; focus (first | (simp; done) | (simp; omega) | omega)) | (with_reducible (refine Since.trans ?_ (by with_reducible assumption)))))⟩
  all_goals
    rw [e]; rw [h1] at hL; rw [h2] at hW
    have q1 : (x == 0 && y == 0) = false := by
      by_cases hx : x = 0 <;> by_cases hy : y = 0
      · exact absurd ⟨hx, hy⟩ hn
      all_goals simp [hx, hy]
    rw [q1] at hE
    clear hn
    go_enter Try.func34, Try.ntmps34
    go_wp2_with (first | (go_at_call 40; (with_reducible refine (hL _).mono ?_); rintro e w1 ⟨rfl, hS1⟩; obtain ⟨c1, c2, c3⟩ := (pt_new w _ rfl x y 34).since hS1) | (go_at_call 74; (with_reducible refine (hW _).mono ?_); rintro e w2 ⟨rfl, hS2⟩))
    go_ret
    exact ⟨rfl, by (repeat (first | with_reducible (exact Since.refl _) | with_reducible assumption | with_reducible (refine Since.drew ?_) | with_reducible (refine Since.drewN ?_ _) | with_reducible (refine Since.alloc ?_ _) | (with_reducible (refine Since.setCell ?_ ?_ _); rotate_left; focus (first | (simp; done) | (simp; omega) | omega)) | (with_reducible (refine Since.trans ?_ (by with_reducible assumption)))))⟩
end Go.Proofs.Ytckochcocflleaa
