/-
  Layer 10: the document's examples.
-/
import Derived.Test.YtbbbojhncfdbdaaGaH
namespace Go.Proofs.Ytbbbojhncfdbdaa
open Go.RowKit
set_option linter.unusedVariables false

theorem inP_small {x y : Int} (h : -1000000000 ≤ x ∧ x ≤ 1000000000) (k : -1000000000 ≤ y ∧ y ≤ 1000000000) : InP x y := by unfold InP In64; omega
theorem al_cross (w : World) : Calls Try.prog 17 #[.agg #[.int .i64 3, .int .i64 1], .agg #[.int .i64 2, .int .i64 4]] w fun e w' => e = .returned (.tuple #[.int .i64 10, .int .i64 0]) ∧ Since w w' :=
  ga_cross 3 1 2 4 (inP_small (by omega) (by omega)) (inP_small (by omega) (by omega)) w
theorem al_far (w : World) : Calls Try.prog 17 #[.agg #[.int .i64 4194305, .int .i64 0], .agg #[.int .i64 3, .int .i64 1]] w fun e w' => e = .returned (.tuple #[.int .i64 0, .int .i64 6]) ∧ Since w w' :=
  ga_cross 4194305 0 3 1 (inP_small (by omega) (by omega)) (inP_small (by omega) (by omega)) w
theorem al_dot (w : World) : Calls Try.prog 18 #[.agg #[.int .i64 3, .int .i64 1], .agg #[.int .i64 2, .int .i64 4]] w fun e w' => e = .returned (.tuple #[.int .i64 10, .int .i64 0]) ∧ Since w w' :=
  ga_dot 3 1 2 4 (inP_small (by omega) (by omega)) (inP_small (by omega) (by omega)) w
theorem al_times (w : World) : Calls Try.prog 19 #[.agg #[.int .i64 3, .int .i64 1], .agg #[.int .i64 2, .int .i64 4]] w fun e w' => e = .returned (.tuple #[.agg #[.int .i64 2, .int .i64 14], .int .i64 0]) ∧ Since w w' :=
  ga_times 3 1 2 4 (inP_small (by omega) (by omega)) (inP_small (by omega) (by omega)) w
theorem al_quarter (w : World) : Calls Try.prog 24 #[.agg #[.int .i64 3, .int .i64 1], .int .i64 1] w fun e w' => e = .returned (.tuple #[.agg #[.int .i64 (-1), .int .i64 3], .int .i64 0]) ∧ Since w w' :=
  ga_quarter 3 1 1 (inP_small (by omega) (by omega)) w
theorem al_area (w : World) (b : Nat) (hb : b = w.heap.size) (t : TypeId) : Calls Try.prog 28 #[.slice (some ⟨b, 0, none⟩) 3 3] (w.alloc (.cells #[.int .i64 0, .int .i64 0, .int .i64 4, .int .i64 0, .int .i64 0, .int .i64 3] t)) fun e w' => e = .returned (.tuple #[.int .i64 12, .int .i64 0]) ∧ Since (w.alloc (.cells #[.int .i64 0, .int .i64 0, .int .i64 4, .int .i64 0, .int .i64 0, .int .i64 3] t)) w' := by
  have h := ga_area _ 3 3 _ _ _ (rdp_three w b hb 0 0 4 0 0 3 t) (fun j hj => by unfold three In64; split <;> (try split) <;> (try split) <;> omega) (by decide)
  have e1 : (if 3 ≤ 4096 ∧ allG (three 0 4 0) (three 0 0 3) 3 = true then areaTo (three 0 4 0) (three 0 0 3) 3 3 else 0) = 12 := by decide +kernel
  have e2 : (if 4096 < 3 then 7 else okE (allG (three 0 4 0) (three 0 0 3) 3)) = 0 := by decide +kernel
  rw [e1, e2] at h
  exact h

set_option maxRecDepth 100000 in
set_option maxHeartbeats 8000000 in
theorem alive10 (w : World) : Calls Try.prog 15 #[] w fun e w' => e = .returned (.bool true) ∧ Since w w' := by
  have tok1 := True.intro
  go_enter Try.func15, Try.ntmps15
  go_wp2_with (first | (go_at_call 17; have _t := tok1; (with_reducible refine (al_cross _).mono ?_); rintro e w1 ⟨rfl, hS1⟩; have hA1 := ((pt_new w _ rfl 3 1 _).alloc _).since hS1; have hB1 := (pt_new _ (w.heap.size + 1) (by simp) 2 4 _).since hS1; have hT1 : Since w w1 := (by (repeat (first | with_reducible (exact Since.refl _) | with_reducible assumption | with_reducible (refine Since.drew ?_) | with_reducible (refine Since.drewN ?_ _) | with_reducible (refine Since.alloc ?_ _) | (with_reducible (refine Since.setCell ?_ ?_ _); rotate_left; focus (first | (simp; done) | (simp; omega) | omega)) | (with_reducible (refine Since.trans ?_ (by with_reducible assumption)))))); obtain ⟨a1, a2, a3⟩ := hA1; obtain ⟨b1, b2, b3⟩ := hB1; clear tok1 hS1) | (go_at_call 18; (with_reducible refine (al_dot _).mono ?_); rintro e w2 ⟨rfl, hS2⟩; have hA2 := PtAt.since ⟨a1, a2, a3⟩ hS2; have hB2 := PtAt.since ⟨b1, b2, b3⟩ hS2; have hT2 := hT1.trans hS2; clear a1 a2 a3 b1 b2 b3 hT1 hS2; obtain ⟨a1, a2, a3⟩ := hA2; obtain ⟨b1, b2, b3⟩ := hB2) | (go_at_call 19; (with_reducible refine (al_times _).mono ?_); rintro e w3 ⟨rfl, hS3⟩; have hA3 := (PtAt.since ⟨a1, a2, a3⟩ hS3).alloc (.cells #[.int .i64 2, .int .i64 14] 23); have hP3 := pt_new w3 _ rfl 2 14 23; have hT3 := (hT2.trans hS3).alloc (.cells #[.int .i64 2, .int .i64 14] 23); clear a1 a2 a3 b1 b2 b3 hT2 hS3; obtain ⟨a1, a2, a3⟩ := hA3) | (go_at_call 24; (with_reducible refine (al_quarter _).mono ?_); rintro e w4 ⟨rfl, hS4⟩; have hA4 := (PtAt.since ⟨a1, a2, a3⟩ hS4).alloc (.cells #[.int .i64 (-1), .int .i64 3] 23); have hP4 := (hP3.since hS4).alloc (.cells #[.int .i64 (-1), .int .i64 3] 23); have hQ4 := pt_new w4 _ rfl (-1) 3 23; have hT4 := (hT3.trans hS4).alloc (.cells #[.int .i64 (-1), .int .i64 3] 23); clear a1 a2 a3 hP3 hT3 hS4; have tok2 := True.intro) | (go_at_call 28; (with_reducible refine (al_area _ _ (by simp) _).mono ?_); rintro e w5 ⟨rfl, hS5⟩; have hA5 := (hA4.alloc _).since hS5; have hP5 := (hP4.alloc _).since hS5; have hQ5 := (hQ4.alloc _).since hS5; have hT5 := (hT4.alloc _).trans hS5; clear hA4 hP4 hQ4 hT4 hS5; obtain ⟨a1, a2, a3⟩ := hA5) | (go_at_call 17; have _t := tok2; (with_reducible refine (al_far _).mono ?_); rintro e w6 ⟨rfl, hS6⟩; have hP6 := hP5.since hS6; have hQ6 := hQ5.since hS6; have hT6 := hT5.trans hS6; obtain ⟨p1, p2, p3⟩ := hP6; obtain ⟨q1, q2, q3⟩ := hQ6; clear tok2 a1 a2 a3 hP5 hQ5 hT5 hS6))
  go_ret
  exact ⟨rfl, hT6⟩
end Go.Proofs.Ytbbbojhncfdbdaa
