/-
  Layer 12: the law ExpandMoves, walked.
-/
import Derived.Test.YtcjjcjpkmjbfkaaExO
namespace Go.Proofs.Ytcjjcjpkmjbfkaa
open Go.RowKit Go.ChangeShapes Go.WideShapes Go.Deep
set_option linter.unusedVariables false
set_option linter.unusedSimpArgs false
attribute [local go_sem] eq_pt7

set_option maxRecDepth 100000 in
set_option maxHeartbeats 16000000 in
theorem walk_expandmoves (x y m0 m1 m2 m3 a b : Int) (w : World) (hx : Sh x) (hy : Sh y) (h0 : Sh m0) (h1 : Sh m1) (h2 : Sh m2) (h3 : Sh m3) (ha : -2147483648 ≤ a ∧ a ≤ 2147483647) (hb : -2147483648 ≤ b ∧ b ≤ 2147483647) :
    Calls Try.prog 4 #[.agg #[.int .i16 x, .int .i16 y, .int .i16 m0, .int .i16 m1, .int .i16 m2, .int .i16 m3, .int .i32 a, .int .i32 b]] w fun e w' => e = .returned (.bool true) ∧ Since w w' := by
  have H1 := Lib.hid (fun w2 => ex_move ⟨0, x, y, m0, m1, m2, m3⟩ (a / 512) (b / 512) w2 (by unfold P8Ok; exact ⟨by simp, hx, hy, h0, h1, h2, h3⟩) (by omega) (by omega))
  have H2 := Lib.hid (fun w2 => rf_move ⟨0, x, y, m0, m1, m2, m3⟩ (a / 512) (b / 512) w2 (by unfold P8Ok; exact ⟨by simp, hx, hy, h0, h1, h2, h3⟩) (by omega) (by omega))
  generalize mvX ⟨0, x, y, m0, m1, m2, m3⟩ (a / 512) (b / 512) = U at *
  generalize mvY ⟨0, x, y, m0, m1, m2, m3⟩ (a / 512) (b / 512) = V at *
  simp only at H1 H2
  unfold Sh at hx hy h0 h1 h2 h3
  have u0 : IntKind.i64.wrap x = x := by rw [IntKind.wrap_i64]; omega
  have u1 : IntKind.i64.wrap y = y := by rw [IntKind.wrap_i64]; omega
  have u2 : IntKind.i64.wrap m0 = m0 := by rw [IntKind.wrap_i64]; omega
  have u3 : IntKind.i64.wrap m1 = m1 := by rw [IntKind.wrap_i64]; omega
  have u4 : IntKind.i64.wrap m2 = m2 := by rw [IntKind.wrap_i64]; omega
  have u5 : IntKind.i64.wrap m3 = m3 := by rw [IntKind.wrap_i64]; omega
  have u6 : IntKind.i64.wrap a = a := by rw [IntKind.wrap_i64]; omega
  have u7 : IntKind.i64.wrap b = b := by rw [IntKind.wrap_i64]; omega
  go_enter Try.func4, Try.ntmps4
  go_upto_region 5 with (go_at_call 7; (with_reducible refine (alive12 _).mono ?_); rintro e w1 ⟨rfl, hS1⟩; have hT1 := ((Since.refl w).alloc _).trans hS1; have c0 : w1.cell? ⟨w.heap.size, 0, none⟩ = some (.int .i16 x) := (hS1.1 _ 0 (by simp)).trans (by rw [World.cell?_alloc_new]; rfl); have c1 : w1.cell? ⟨w.heap.size, 1, none⟩ = some (.int .i16 y) := (hS1.1 _ 1 (by simp)).trans (by rw [World.cell?_alloc_new]; rfl); have c2 : w1.cell? ⟨w.heap.size, 2, none⟩ = some (.int .i16 m0) := (hS1.1 _ 2 (by simp)).trans (by rw [World.cell?_alloc_new]; rfl); have c3 : w1.cell? ⟨w.heap.size, 3, none⟩ = some (.int .i16 m1) := (hS1.1 _ 3 (by simp)).trans (by rw [World.cell?_alloc_new]; rfl); have c4 : w1.cell? ⟨w.heap.size, 4, none⟩ = some (.int .i16 m2) := (hS1.1 _ 4 (by simp)).trans (by rw [World.cell?_alloc_new]; rfl); have c5 : w1.cell? ⟨w.heap.size, 5, none⟩ = some (.int .i16 m3) := (hS1.1 _ 5 (by simp)).trans (by rw [World.cell?_alloc_new]; rfl); have c6 : w1.cell? ⟨w.heap.size, 6, none⟩ = some (.int .i32 a) := (hS1.1 _ 6 (by simp)).trans (by rw [World.cell?_alloc_new]; rfl); have c7 : w1.cell? ⟨w.heap.size, 7, none⟩ = some (.int .i32 b) := (hS1.1 _ 7 (by simp)).trans (by rw [World.cell?_alloc_new]; rfl); have hb1 : w.heap.size < w1.heap.size := (by have := hS1.below.size; simp at this; omega))
  (refine wp_named fun wr5 hwr5 => ?_; go_region_held3 (fun w' => (∀ b o, b < wr5.heap.size → w'.cell? ⟨b, o, none⟩ = wr5.cell? ⟨b, o, none⟩) ∧ (∀ b o, b < wr5.heap.size → w'.frozen? ⟨b, o, none⟩ = wr5.frozen? ⟨b, o, none⟩) ∧ (∀ k, k < wr5.heap.size → k < w'.heap.size) ∧ Below wr5.heap.size wr5 w') ((subst hwr5; (repeat (with_reducible (refine since_put ?_ ?_ _); rotate_left; focus (first | (simp; done) | (simp; omega) | omega))); first | assumption | (refine since_step (by assumption) ?_; first | assumption | ((repeat (first | with_reducible (exact Since.refl _) | with_reducible assumption | with_reducible (refine Since.drew ?_) | with_reducible (refine Since.drewN ?_ _) | with_reducible (refine Since.alloc ?_ _) | (with_reducible (refine Since.setCell ?_ ?_ _); rotate_left; focus (first | (simp; done) | (simp; omega) | omega)))); done)) | (refine since_step (Since.refl _) ?_; first | assumption | ((repeat (first | with_reducible (exact Since.refl _) | with_reducible assumption | with_reducible (refine Since.drew ?_) | with_reducible (refine Since.drewN ?_ _) | with_reducible (refine Since.alloc ?_ _) | (with_reducible (refine Since.setCell ?_ ?_ _); rotate_left; focus (first | (simp; done) | (simp; omega) | omega)) | (with_reducible (refine Since.trans ?_ (by with_reducible assumption))))); done)))) (first | (go_at_call 14; refine (H1.out _).mono ?_; rintro e w1 ⟨rfl, hS⟩; have hZ := hS.below.size; (try simp at hZ)) | (go_at_call 15; refine (H2.out _).mono ?_; rintro e w1 ⟨rfl, hS⟩; have hZ := hS.below.size; (try simp at hZ))); all_goals (rename_i hHeld; have hR5 : Since wr5 _ := hHeld; obtain ⟨hcR5, hfR5, hzR5, hbR5⟩ := hHeld; subst hwr5))
  all_goals go_wp2_with fail
  all_goals go_ret
  all_goals exact ⟨by first | rfl | simp, by (repeat (first | with_reducible (exact Since.refl _) | with_reducible assumption | with_reducible (refine Since.drew ?_) | with_reducible (refine Since.drewN ?_ _) | with_reducible (refine Since.alloc ?_ _) | (with_reducible (refine Since.setCell ?_ ?_ _); rotate_left; focus (first | (simp; done) | (simp; omega) | omega)) | (with_reducible (refine Since.trans ?_ (by with_reducible assumption)))))⟩
end Go.Proofs.Ytcjjcjpkmjbfkaa
