/-
  Layer 8: numbers as lists; the reference's turn, walked; 'Same' of parts.
-/
import Derived.Test.YtcjjcjpkmjbfkaaCoF
import Derived.Test.YtcjjcjpkmjbfkaaMhC
import Derived.Deep.CutBlock
import Derived.Deep.DeepCutAuto
import Derived.Deep.RegionWith
import Derived.Laws.StructEq
import Derived.IntWalk
namespace Go.Proofs.Ytcjjcjpkmjbfkaa
open Go.RowKit Go.ChangeShapes Go.WideShapes Go.Deep
set_option linter.unusedVariables false

/-- What 'turn' leaves. -/
def TurnPost (F : Int) (L : List Int) (w : World) (e : Ending) (w' : World) : Prop := ∃ v, e = .returned (.tuple #[.int .i64 F, v]) ∧ OwnG 3 1 inL w' w.heap.size v L ∧ Since w w'
set_option maxRecDepth 100000 in
set_option maxHeartbeats 8000000 in
theorem rf_turn (P : Pt8) (w : World) : Calls Try.prog 29 #[.agg #[.int .i64 P.m0, .int .i64 P.m1, .int .i64 P.m2, .int .i64 P.m3]] w (TurnPost (turnF P) (turnN P) w) := by
  obtain ⟨g, x, y, m0, m1, m2, m3⟩ := P
  simp only
  have c1 : m1 ≠ 0 ∨ (m1 = 0 ∧ m2 ≠ 0) ∨ (m1 = 0 ∧ m2 = 0 ∧ m0 ≠ m3) ∨ (m1 = 0 ∧ m2 = 0 ∧ m0 = m3 ∧ m0 ≠ 16384) ∨ (m1 = 0 ∧ m2 = 0 ∧ m0 = m3 ∧ m0 = 16384) := by omega
  rcases c1 with h1 | ⟨h1, h2⟩ | ⟨h1, h2, h3⟩ | ⟨h1, h2, h3, h4⟩ | ⟨h1, h2, h3, h4⟩
  · have EF : turnF ⟨g, x, y, m0, m1, m2, m3⟩ = 128 := by unfold turnF; rw [if_pos (.inl h1)]
    have EN : turnN ⟨g, x, y, m0, m1, m2, m3⟩ = [m0, m1, m2, m3] := by unfold turnN; rw [if_pos (.inl h1)]
    rw [EF, EN]
    clear EF EN
    have d1 : (m1 != 0) = true := by simpa using h1
    clear h1
    go_enter Try.func29, Try.ntmps29
    go_wp2_with fail
    go_region
    all_goals (go_wp2_with fail; go_ret2)
    all_goals exact ⟨_, rfl, ownI_new _ _ _ _ (by simp) (by simp) _ _ rfl rfl (by simp), by (repeat (first | with_reducible (exact Since.refl _) | with_reducible assumption | with_reducible (refine Since.drew ?_) | with_reducible (refine Since.drewN ?_ _) | with_reducible (refine Since.alloc ?_ _) | (with_reducible (refine Since.setCell ?_ ?_ _); rotate_left; focus (first | (simp; done) | (simp; omega) | omega)) | (with_reducible (refine Since.trans ?_ (by with_reducible assumption)))))⟩
  · have EF : turnF ⟨g, x, y, m0, m1, m2, m3⟩ = 128 := by unfold turnF; rw [if_pos (.inr h2)]
    have EN : turnN ⟨g, x, y, m0, m1, m2, m3⟩ = [m0, m1, m2, m3] := by unfold turnN; rw [if_pos (.inr h2)]
    rw [EF, EN]
    clear EF EN
    subst h1
    have d1 : (m2 != 0) = true := by simpa using h2
    clear h2
    go_enter Try.func29, Try.ntmps29
    go_wp2_with fail
    go_region
    all_goals (go_wp2_with fail; go_ret2)
    all_goals exact ⟨_, rfl, ownI_new _ _ _ _ (by simp) (by simp) _ _ rfl rfl (by simp), by (repeat (first | with_reducible (exact Since.refl _) | with_reducible assumption | with_reducible (refine Since.drew ?_) | with_reducible (refine Since.drewN ?_ _) | with_reducible (refine Since.alloc ?_ _) | (with_reducible (refine Since.setCell ?_ ?_ _); rotate_left; focus (first | (simp; done) | (simp; omega) | omega)) | (with_reducible (refine Since.trans ?_ (by with_reducible assumption)))))⟩
  · have EF : turnF ⟨g, x, y, m0, m1, m2, m3⟩ = 64 := by unfold turnF; rw [if_neg (by simp only; omega), if_pos (by simpa using h3)]
    have EN : turnN ⟨g, x, y, m0, m1, m2, m3⟩ = [m0, m3] := by unfold turnN; rw [if_neg (by simp only; omega), if_pos (by simpa using h3)]
    rw [EF, EN]
    clear EF EN
    subst h1 h2
    have d1 : (m0 != m3) = true := by simpa using h3
    clear h3
    go_enter Try.func29, Try.ntmps29
    go_wp2_with fail
    go_region
    all_goals (go_wp2_with fail; go_ret2)
    all_goals exact ⟨_, rfl, ownI_new _ _ _ _ (by simp) (by simp) _ _ rfl rfl (by simp), by (repeat (first | with_reducible (exact Since.refl _) | with_reducible assumption | with_reducible (refine Since.drew ?_) | with_reducible (refine Since.drewN ?_ _) | with_reducible (refine Since.alloc ?_ _) | (with_reducible (refine Since.setCell ?_ ?_ _); rotate_left; focus (first | (simp; done) | (simp; omega) | omega)) | (with_reducible (refine Since.trans ?_ (by with_reducible assumption)))))⟩
  · have EF : turnF ⟨g, x, y, m0, m1, m2, m3⟩ = 8 := by unfold turnF; rw [if_neg (by simp only; omega), if_neg (by simp only; omega), if_pos (by simpa using h4)]
    have EN : turnN ⟨g, x, y, m0, m1, m2, m3⟩ = [m0] := by unfold turnN; rw [if_neg (by simp only; omega), if_neg (by simp only; omega), if_pos (by simpa using h4)]
    rw [EF, EN]
    clear EF EN
    subst h1 h2 h3
    have d1 : (m0 != 16384) = true := by simpa using h4
    clear h4
    go_enter Try.func29, Try.ntmps29
    go_wp2_with fail
    go_region
    all_goals (go_wp2_with fail; go_ret2)
    all_goals exact ⟨_, rfl, ownI_new _ _ _ _ (by simp) (by simp) _ _ rfl rfl (by simp), by (repeat (first | with_reducible (exact Since.refl _) | with_reducible assumption | with_reducible (refine Since.drew ?_) | with_reducible (refine Since.drewN ?_ _) | with_reducible (refine Since.alloc ?_ _) | (with_reducible (refine Since.setCell ?_ ?_ _); rotate_left; focus (first | (simp; done) | (simp; omega) | omega)) | (with_reducible (refine Since.trans ?_ (by with_reducible assumption)))))⟩
  · have EF : turnF ⟨g, x, y, m0, m1, m2, m3⟩ = 0 := by unfold turnF; rw [if_neg (by simp only; omega), if_neg (by simp only; omega), if_neg (by simp only; omega)]
    have EN : turnN ⟨g, x, y, m0, m1, m2, m3⟩ = [] := by unfold turnN; rw [if_neg (by simp only; omega), if_neg (by simp only; omega), if_neg (by simp only; omega)]
    rw [EF, EN]
    clear EF EN
    subst h1 h2 h3 h4
    go_enter Try.func29, Try.ntmps29
    go_wp2_with fail
    go_ret2
    exact ⟨_, rfl, OwnG.nil _ _ _ _ _, by (repeat (first | with_reducible (exact Since.refl _) | with_reducible assumption | with_reducible (refine Since.drew ?_) | with_reducible (refine Since.drewN ?_ _) | with_reducible (refine Since.alloc ?_ _) | (with_reducible (refine Since.setCell ?_ ?_ _); rotate_left; focus (first | (simp; done) | (simp; omega) | omega)) | (with_reducible (refine Since.trans ?_ (by with_reducible assumption)))))⟩
end Go.Proofs.Ytcjjcjpkmjbfkaa
