/-
  Layer 13: the reference's Box, walked.
-/
import Derived.Test.YtbbbojhncfdbdaaQuG
import Derived.Test.YtbbbojhncfdbdaaQrA
namespace Go.Proofs.Ytbbbojhncfdbdaa
open Go.RowKit
set_option linter.unusedVariables false

set_option maxHeartbeats 8000000 in
theorem rq_box (s : Sg) (w : World) :
    Calls Try.prog 41 #[s.v] w fun e w' => e = .returned (boxV s) ∧ Since w w' := by
  have hmin : ∀ (A B : Int) (w : World), (Builtin.min_ #[3, 3] 3 #[.int .i64 A, .int .i64 B]).run Try.prog w = .ok (.int .i64 (mi A B)) w := fun _ _ _ => rfl
  have hmax : ∀ (A B : Int) (w : World), (Builtin.max_ #[3, 3] 3 #[.int .i64 A, .int .i64 B]).run Try.prog w = .ok (.int .i64 (ma A B)) w := fun _ _ _ => rfl
  obtain ⟨ax, ay, cx, cy, bx, bz, k⟩ := s
  cases k with
  | false =>
    unfold boxV lo3 hi3 Sg.v Pt
    simp only [if_false, Bool.false_eq_true]
    go_enter Try.func41, Try.ntmps41
    go_wp2
    refine wp_named fun w3 hw3 => ?_
    have hY3 : Zero2 w3 (w.heap.size + 1) := by subst hw3; exact ((((zero2_new _ (w.heap.size + 1) (by simp) _).alloc _).alloc _).alloc _)
    have hZ3 : Zero2 w3 (w.heap.size + 1 + 1) := by subst hw3; exact (((zero2_new _ (w.heap.size + 1 + 1) (by simp) _).alloc _).alloc _)
    have hP3 : PtAt w3 (w.heap.size + 1 + 1 + 1) (mi ax bx) (mi ay bz) := by subst hw3; exact ((pt_new _ (w.heap.size + 1 + 1 + 1) (by simp) _ _ _).alloc _)
    have hQ3 : PtAt w3 (w.heap.size + 1 + 1 + 1 + 1) (ma ax bx) (ma ay bz) := by subst hw3; exact (pt_new _ (w.heap.size + 1 + 1 + 1 + 1) (by simp) _ _ _)
    have hS4 : Since w w3 := by subst hw3; (repeat (first | with_reducible (exact Since.refl _) | with_reducible assumption | with_reducible (refine Since.drew ?_) | with_reducible (refine Since.drewN ?_ _) | with_reducible (refine Since.alloc ?_ _) | (with_reducible (refine Since.setCell ?_ ?_ _); rotate_left; focus (first | (simp; done) | (simp; omega) | omega)) | (with_reducible (refine Since.trans ?_ (by with_reducible assumption)))))
    clear hw3
    obtain ⟨p1, p2, p3⟩ := hP3
    obtain ⟨q1, q2, q3⟩ := hQ3
    obtain ⟨⟨z1, z2, z3⟩, zF⟩ := hZ3
    have zF0 := zF 0
    have zF1 := zF 1
    obtain ⟨⟨y1, y2, y3⟩, yF⟩ := hY3
    have yF0 := yF 0
    have yF1 := yF 1
    clear zF yF
    go_region
    all_goals go_wp2
    all_goals refine bodyPost_ret (by simp only [results, Try.results41]; go_simp) rfl ⟨rfl, ?_⟩
    all_goals (repeat (first | with_reducible (exact Since.refl _) | with_reducible assumption | with_reducible (refine Since.drew ?_) | with_reducible (refine Since.drewN ?_ _) | with_reducible (refine Since.alloc ?_ _) | (with_reducible (refine Since.setCell ?_ ?_ _); rotate_left; focus (first | (simp; done) | (simp; omega) | omega)) | (with_reducible (refine Since.trans ?_ (by with_reducible assumption)))))
  | true =>
    unfold boxV lo3 hi3 Sg.v Pt
    simp only [if_true]
    go_enter Try.func41, Try.ntmps41
    go_wp2
    refine wp_named fun w3 hw3 => ?_
    have hY3 : Zero2 w3 (w.heap.size + 1) := by subst hw3; exact ((((zero2_new _ (w.heap.size + 1) (by simp) _).alloc _).alloc _).alloc _)
    have hZ3 : Zero2 w3 (w.heap.size + 1 + 1) := by subst hw3; exact (((zero2_new _ (w.heap.size + 1 + 1) (by simp) _).alloc _).alloc _)
    have hP3 : PtAt w3 (w.heap.size + 1 + 1 + 1) (mi (mi ax bx) cx) (mi (mi ay bz) cy) := by subst hw3; exact ((pt_new _ (w.heap.size + 1 + 1 + 1) (by simp) _ _ _).alloc _)
    have hQ3 : PtAt w3 (w.heap.size + 1 + 1 + 1 + 1) (ma (ma ax bx) cx) (ma (ma ay bz) cy) := by subst hw3; exact (pt_new _ (w.heap.size + 1 + 1 + 1 + 1) (by simp) _ _ _)
    have hS4 : Since w w3 := by subst hw3; (repeat (first | with_reducible (exact Since.refl _) | with_reducible assumption | with_reducible (refine Since.drew ?_) | with_reducible (refine Since.drewN ?_ _) | with_reducible (refine Since.alloc ?_ _) | (with_reducible (refine Since.setCell ?_ ?_ _); rotate_left; focus (first | (simp; done) | (simp; omega) | omega)) | (with_reducible (refine Since.trans ?_ (by with_reducible assumption)))))
    clear hw3
    obtain ⟨p1, p2, p3⟩ := hP3
    obtain ⟨q1, q2, q3⟩ := hQ3
    obtain ⟨⟨z1, z2, z3⟩, zF⟩ := hZ3
    have zF0 := zF 0
    have zF1 := zF 1
    obtain ⟨⟨y1, y2, y3⟩, yF⟩ := hY3
    have yF0 := yF 0
    have yF1 := yF 1
    clear zF yF
    go_region
    all_goals go_wp2
    all_goals refine bodyPost_ret (by simp only [results, Try.results41]; go_simp) rfl ⟨rfl, ?_⟩
    all_goals (repeat (first | with_reducible (exact Since.refl _) | with_reducible assumption | with_reducible (refine Since.drew ?_) | with_reducible (refine Since.drewN ?_ _) | with_reducible (refine Since.alloc ?_ _) | (with_reducible (refine Since.setCell ?_ ?_ _); rotate_left; focus (first | (simp; done) | (simp; omega) | omega)) | (with_reducible (refine Since.trans ?_ (by with_reducible assumption)))))
end Go.Proofs.Ytbbbojhncfdbdaa
