/-
  Layer 22: 'Along' at any numbers, 'Normal', the document's 'Along', walked.
-/
import Derived.Test.YtckochcocflleaaArG
namespace Go.Proofs.Ytckochcocflleaa
open Go.RowKit
set_option linter.unusedVariables false

theorem ar_along (x y r : Int) (w : World) : Calls Try.prog 32 #[Pt x y, .int .i64 r] w fun e w' => e = .returned (.tuple #[Pt (alXe x y r) (alYe x y r), .int .i64 (alE x y r)]) ∧ Since w w' := by
  by_cases h : alE x y r = 0
  · unfold alXe alYe
    rw [if_pos h, if_pos h, h]
    exact ar_along_ok x y r h w
  · unfold alXe alYe
    rw [if_neg h, if_neg h]
    exact ar_along_no x y r h w
theorem alE_turn {x y r : Int} (hy : In64 y) : alE (IntKind.i64.wrap (-y)) x r = alE x y r := by
  unfold In64 at hy
  have hw : IntKind.i64.wrap (-y) = if y = -9223372036854775808 then -9223372036854775808 else -y := by
    rw [IntKind.wrap_i64]
    split <;> omega
  rw [hw]
  unfold alE
  have e1 : wayB (if y = -9223372036854775808 then -9223372036854775808 else -y) x = wayB x y := by
    unfold wayB
    rw [Bool.eq_iff_iff]
    simp only [decide_eq_true_eq]
    split <;> omega
  rw [e1]
  by_cases h : x = 0 ∧ y = 0
  · obtain ⟨rfl, rfl⟩ := h
    rfl
  · rw [if_neg (c := x = 0 ∧ y = 0) h]
    have h2 : ¬ ((if y = -9223372036854775808 then -9223372036854775808 else -y) = 0 ∧ x = 0) := fun h2 => h (by
      obtain ⟨a, b⟩ := h2
      split at a <;> omega)
    rw [if_neg h2]
theorem alE_zero {x y r : Int} (h : alE x y r = 0) : (1 ≤ r ∧ r ≤ 262144) ∧ (-8388608 ≤ x ∧ x ≤ 8388608 ∧ -8388608 ≤ y ∧ y ≤ 8388608) ∧ ¬ (x = 0 ∧ y = 0) := by
  rcases alE_cases x y r with ⟨e, h1⟩ | ⟨e, h1, _, _⟩ | ⟨e, h1, hn, h2⟩ | ⟨e, h1, hn, h2⟩
  · omega
  · omega
  · omega
  · exact ⟨lenB_iff.1 h1, wayB_iff.1 h2, hn⟩
set_option maxHeartbeats 4000000 in
theorem ar_normal_raw (x y r : Int) (w : World) : Calls Try.prog 33 #[Pt x y, .int .i64 r] w fun e w' => e = .returned (.tuple #[Pt (alXe (IntKind.i64.wrap (-y)) x r) (alYe (IntKind.i64.wrap (-y)) x r), .int .i64 (alE (IntKind.i64.wrap (-y)) x r)]) ∧ Since w w' := by
  have hA := fun w => ar_along (IntKind.i64.wrap (-y)) x r w
  unfold Pt at *
  generalize hV : IntKind.i64.wrap (-y) = V at *
  have hV' : wrap64 (-y) = V := by rw [← hV, IntKind.wrap_i64]; unfold wrap64; omega
  generalize alXe V x r = P at *
  generalize alYe V x r = Q at *
  generalize alE V x r = E at *
  have HA := Lib.hid hA
  clear hA
  go_enter Try.func33, Try.ntmps33
  go_wp2_with (go_at_call 32; (with_reducible refine (HA.out _).mono ?_); rintro e w1 ⟨rfl, hS1⟩; have hP1 := (prow2 _ (w.heap.size + 1) (by simp) _ 0 0).since hS1; have hS : Since w w1 := (by (repeat (first | with_reducible (exact Since.refl _) | with_reducible assumption | with_reducible (refine Since.drew ?_) | with_reducible (refine Since.drewN ?_ _) | with_reducible (refine Since.alloc ?_ _) | (with_reducible (refine Since.setCell ?_ ?_ _); rotate_left; focus (first | (simp; done) | (simp; omega) | omega)) | (with_reducible (refine Since.trans ?_ (by with_reducible assumption)))))); obtain ⟨c1, c2, c3⟩ := pcells hP1; have cF := hP1.2.1)
  refine bodyPost_ret (by simp only [results, Try.results33]; go_simp) rfl ⟨rfl, ?_⟩
  (repeat (first | with_reducible (exact Since.refl _) | with_reducible assumption | with_reducible (refine Since.drew ?_) | with_reducible (refine Since.drewN ?_ _) | with_reducible (refine Since.alloc ?_ _) | (with_reducible (refine Since.setCell ?_ ?_ _); rotate_left; focus (first | (simp; done) | (simp; omega) | omega)) | (with_reducible (refine Since.trans ?_ (by with_reducible assumption)))))
/-- What 'Normal' is. -/
noncomputable def noXe (x y r : Int) : Int := if alE x y r = 0 then -alY x y r else 0
noncomputable def noYe (x y r : Int) : Int := if alE x y r = 0 then alX x y r else 0
theorem ar_normal (x y r : Int) (hy : In64 y) (w : World) : Calls Try.prog 33 #[Pt x y, .int .i64 r] w fun e w' => e = .returned (.tuple #[Pt (noXe x y r) (noYe x y r), .int .i64 (alE x y r)]) ∧ Since w w' := by
  have h := ar_normal_raw x y r w
  have e := alE_turn (x := x) (r := r) hy
  unfold alXe alYe at h
  rw [e] at h
  unfold noXe noYe
  by_cases hz : alE x y r = 0
  · rw [if_pos hz, if_pos hz] at h ⊢
    obtain ⟨⟨r0, r1⟩, ⟨x0, x1, y0, y1⟩, hn⟩ := alE_zero hz
    obtain ⟨f1, f2, _⟩ := al_facts hn r0
    rw [IntWalk.i64_in _ (show _ ∧ _ by omega), f1, f2] at h
    exact h
  · rw [if_neg hz, if_neg hz] at h ⊢
    exact h
set_option maxRecDepth 100000 in
set_option maxHeartbeats 8000000 in
theorem rf_along (x y r : Int) (h : alE x y r = 0) (w : World) : Calls Try.prog 35 #[Pt x y, .int .i64 r] w fun e w' => e = .returned (Pt (alX x y r) (alY x y r)) ∧ Since w w' := by
  obtain ⟨⟨r0, r1⟩, hwy, hn⟩ := alE_zero h
  obtain ⟨⟨s0, s1⟩, ⟨s2, s3⟩, ⟨s4, s5⟩, s6, s7⟩ := way_sq (wayB_iff.2 hwy) hn
  obtain ⟨y0, y1, y2, y3⟩ := hwy
  have hX := fun w => rf_nearest x r (x * x + y * y) (by omega) (by omega) (by omega) s6 w
  have hY := fun w => rf_nearest y r (x * x + y * y) (by omega) (by omega) (by omega) s7 w
  have u1 : IntKind.i64.wrap (x * x) = x * x := IntWalk.i64_in _ (by omega)
  have u2 : IntKind.i64.wrap (y * y) = y * y := IntWalk.i64_in _ (by omega)
  have u3 : IntKind.i64.wrap (x * x + y * y) = x * x + y * y := IntWalk.i64_in _ (by omega)
  unfold alX alY
  unfold Pt at *
  generalize hS0 : x * x + y * y = S at *
  generalize shrI x r S = P at *
  generalize shrI y r S = Q at *
  have HX := Lib.hid hX
  have HY := Lib.hid hY
  clear hX hY s0 s1 s2 s3 s4 s5 s6 s7 y0 y1 y2 y3 r0 r1 hn h
  go_enter Try.func35, Try.ntmps35
  go_upto_region 2 with fail
  (refine wp_named fun wr1 hwr1 => ?_; go_region_held3 (fun w' => (∀ b o, b < (w.heap.size + 1) → w'.cell? ⟨b, o, none⟩ = wr1.cell? ⟨b, o, none⟩) ∧ (∀ b o, b < wr1.heap.size → w'.frozen? ⟨b, o, none⟩ = wr1.frozen? ⟨b, o, none⟩) ∧ (∀ k, k < wr1.heap.size → k < w'.heap.size) ∧ Below ((w.heap.size + 1)) wr1 w' ∧ (∀ o, o < 2 → w'.cell? ⟨(w.heap.size + 1), o, none⟩ = some (cellD w' ((w.heap.size + 1)) o))) ((subst hwr1; (repeat with_reducible (refine sr_set ?_ _ _)); first | assumption | (refine sr_step (by first | assumption | omega | (simp; done) | (simp; omega)) (by assumption) ?_; first | assumption | (repeat (first | with_reducible (exact Since.refl _) | with_reducible assumption | with_reducible (refine Since.drew ?_) | with_reducible (refine Since.drewN ?_ _) | with_reducible (refine Since.alloc ?_ _) | (with_reducible (refine Since.setCell ?_ ?_ _); rotate_left; focus (first | (simp; done) | (simp; omega) | omega))))) | (refine sr_step (by first | assumption | omega | (simp; done) | (simp; omega)) (sr_start (fun o ho => by (have ho' : o = 0 ∨ o = 1 := by omega); rcases ho' with rfl | rfl <;> (first | (simp [go_sem]; done) | simp_all))) ?_; first | assumption | (repeat (first | with_reducible (exact Since.refl _) | with_reducible assumption | with_reducible (refine Since.drew ?_) | with_reducible (refine Since.drewN ?_ _) | with_reducible (refine Since.alloc ?_ _) | (with_reducible (refine Since.setCell ?_ ?_ _); rotate_left; focus (first | (simp; done) | (simp; omega) | omega))))))) (first | (go_at_call 75; (with_reducible refine (HX.out _).mono ?_); rintro e w1 ⟨rfl, hS⟩; have hZ := hS.below.size; (try simp at hZ)) | (go_at_call 75; (with_reducible refine (HY.out _).mono ?_); rintro e w1 ⟨rfl, hS⟩; have hZ := hS.below.size; (try simp at hZ))); all_goals (rename_i hHeld; obtain ⟨hcR1, hfR1, hzR1, hbR1, hoR1⟩ := hHeld; have hiR := fun o ho => there_of (hoR1 o ho); (try simp only [there_set] at hiR); clear hoR1; subst hwr1; have hR1 : Since w _ := sr_out hbR1 (by (repeat (first | with_reducible (exact Since.refl _) | with_reducible assumption | with_reducible (refine Since.drew ?_) | with_reducible (refine Since.drewN ?_ _) | with_reducible (refine Since.alloc ?_ _) | (with_reducible (refine Since.setCell ?_ ?_ _); rotate_left; focus (first | (simp; done) | (simp; omega) | omega)) | (with_reducible (refine Since.trans ?_ (by with_reducible assumption)))))) (by first | (simp; done) | (simp; omega) | omega)))
  all_goals go_wp2
  all_goals refine bodyPost_ret (by simp only [results, Try.results35]; go_simp) rfl ⟨rfl, ?_⟩
  all_goals (repeat (first | with_reducible (exact Since.refl _) | with_reducible assumption | with_reducible (refine Since.drew ?_) | with_reducible (refine Since.drewN ?_ _) | with_reducible (refine Since.alloc ?_ _) | (with_reducible (refine Since.setCell ?_ ?_ _); rotate_left; focus (first | (simp; done) | (simp; omega) | omega)) | (with_reducible (refine Since.trans ?_ (by with_reducible assumption)))))
end Go.Proofs.Ytckochcocflleaa
