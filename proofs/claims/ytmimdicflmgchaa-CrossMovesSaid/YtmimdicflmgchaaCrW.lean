/-
  Layer 15: the document's examples.
-/
import Derived.Test.YtmimdicflmgchaaCrV
import Derived.Test.YtmimdicflmgchaaCrC
import Derived.Deep.CutBlock
namespace Go.Proofs.Ytmimdicflmgchaa
open Go.RowKit
set_option linter.unusedVariables false

theorem eq_wide (w : World) (h : Int) (l : Int) : (Op.equalIn 9999 37 (.agg #[.int .i64 h, .int .u64 l]) (.agg #[.int .i64 h, .int .u64 l])).run Try.prog w = .ok true w := by
  rw [run_equalIn_struct w 9998 37 _ _ (by kernel_rfl) (by kernel_rfl)]
  have heq : ∀ (d : Nat) (a b : Int) (w : World), (Op.equalIn (d + 1) 2 (.int .i64 a) (.int .i64 b)).run Try.prog w = .ok (a == b) w := fun d a b w => run_equalIn_int w d _ _ _ a b Try.underlying2
  have heu : ∀ (d : Nat) (a b : Int) (w : World), (Op.equalIn (d + 1) 35 (.int .u64 a) (.int .u64 b)).run Try.prog w = .ok (a == b) w := fun d a b w => run_equalIn_int w d _ _ _ a b Try.underlying35
  have hc : Try.prog.cellsOf 2 = 1 := by kernel_rfl
  have hcu : Try.prog.cellsOf 35 = 1 := by kernel_rfl
  simp only [Program.fieldsOf, Try.underlying37]
  simp [go_sem]
theorem eq_cp (w : World) (k a b c d e : Int) : (Op.equalIn 10000 39 (.agg #[.int .i64 k, .int .i64 a, .int .u64 b, .int .i64 c, .int .u64 d, .int .i64 e]) (.agg #[.int .i64 k, .int .i64 a, .int .u64 b, .int .i64 c, .int .u64 d, .int .i64 e])).run Try.prog w = .ok true w := by
  rw [run_equalIn_struct w 9999 39 _ _ (by kernel_rfl) (by kernel_rfl)]
  have heq : ∀ (d : Nat) (a b : Int) (w : World), (Op.equalIn (d + 1) 3 (.int .i64 a) (.int .i64 b)).run Try.prog w = .ok (a == b) w := fun d a b w => run_equalIn_int w d _ _ _ a b Try.underlying3
  have hc : Try.prog.cellsOf 3 = 1 := by kernel_rfl
  have hcw : Try.prog.cellsOf 37 = 2 := by kernel_rfl
  have hw := eq_wide
  simp only [Program.fieldsOf, Try.underlying39]
  simp [go_sem, hw]
attribute [go_sem] eq_cp
theorem law_line (a b c d : Int) (w : World) : Calls Try.prog 31 #[.int .i64 a, .int .i64 b, .int .i64 c, .int .i64 d] w fun e w' => e = .returned (.agg #[.int .i64 a, .int .i64 b, .int .i64 c, .int .i64 d]) ∧ Since w w' := by
  go_enter Try.func31, Try.ntmps31
  go_wp2
  refine bodyPost_ret (by simp only [results, Try.results31]; go_simp) rfl ⟨rfl, ?_⟩
  (repeat (first | with_reducible (exact Since.refl _) | with_reducible assumption | with_reducible (refine Since.drew ?_) | with_reducible (refine Since.drewN ?_ _) | with_reducible (refine Since.alloc ?_ _) | (with_reducible (refine Since.setCell ?_ ?_ _); rotate_left; focus (first | (simp; done) | (simp; omega) | omega)) | (with_reducible (refine Since.trans ?_ (by with_reducible assumption)))))
theorem wf_tiny (a b c d : Int) (h : -1000 ≤ a ∧ a ≤ 1000 ∧ -1000 ≤ b ∧ b ≤ 1000 ∧ -1000 ≤ c ∧ c ≤ 1000 ∧ -1000 ≤ d ∧ d ≤ 1000) : (⟨a, b, c, d⟩ : Ln).wf := by
  unfold Ln.wf InP In64
  simp only
  omega
theorem al_meet1 (w : World) : Calls Try.prog 17 #[.agg #[.int .i64 0, .int .i64 0, .int .i64 4, .int .i64 4], .agg #[.int .i64 0, .int .i64 4, .int .i64 4, .int .i64 0]] w fun e w' => e = .returned (.tuple #[.agg #[.int .i64 1, .int .i64 0, .int .u64 64, .int .i64 0, .int .u64 64, .int .i64 32], .int .i64 0]) ∧ Since w w' :=
  cr_meet ⟨0, 0, 4, 4⟩ ⟨0, 4, 4, 0⟩ (wf_tiny _ _ _ _ (by decide)) (wf_tiny _ _ _ _ (by decide)) w
theorem al_meet2 (w : World) : Calls Try.prog 17 #[.agg #[.int .i64 0, .int .i64 0, .int .i64 4, .int .i64 0], .agg #[.int .i64 2, .int .i64 0, .int .i64 9, .int .i64 0]] w fun e w' => e = .returned (.tuple #[.agg #[.int .i64 2, .int .i64 0, .int .u64 0, .int .i64 0, .int .u64 0, .int .i64 0], .int .i64 0]) ∧ Since w w' :=
  cr_meet ⟨0, 0, 4, 0⟩ ⟨2, 0, 9, 0⟩ (wf_tiny _ _ _ _ (by decide)) (wf_tiny _ _ _ _ (by decide)) w
theorem al_e3 : meetCp ⟨0, 0, 4, 0⟩ ⟨4, 0, 9, 0⟩ = ⟨1, 4, 0, 1⟩ := by kernel_rfl
theorem al_f3 : meetE ⟨0, 0, 4, 0⟩ ⟨4, 0, 9, 0⟩ = 0 := by kernel_rfl
theorem al_meet3 (w : World) : Calls Try.prog 17 #[.agg #[.int .i64 0, .int .i64 0, .int .i64 4, .int .i64 0], .agg #[.int .i64 4, .int .i64 0, .int .i64 9, .int .i64 0]] w fun e w' => e = .returned (.tuple #[.agg #[.int .i64 1, .int .i64 0, .int .u64 4, .int .i64 0, .int .u64 0, .int .i64 1], .int .i64 0]) ∧ Since w w' := by
  have h := cr_meet ⟨0, 0, 4, 0⟩ ⟨4, 0, 9, 0⟩ (wf_tiny _ _ _ _ (by decide)) (wf_tiny _ _ _ _ (by decide)) w
  rw [al_e3, al_f3] at h
  exact h
theorem al_p1 : pixX ⟨1, 32, -33, 1⟩ = 1 := by kernel_rfl
theorem al_p2 : pixY ⟨1, 32, -33, 1⟩ = -1 := by kernel_rfl
theorem al_p3 : (Cp.mk 1 32 (-33) 1).v = .agg #[.int .i64 1, .int .i64 0, .int .u64 32, .int .i64 (-1), .int .u64 18446744073709551583, .int .i64 1] := by kernel_rfl
theorem al_pixel (w : World) : Calls Try.prog 18 #[.agg #[.int .i64 1, .int .i64 0, .int .u64 32, .int .i64 (-1), .int .u64 18446744073709551583, .int .i64 1]] w fun e w' => e = .returned (.tuple #[.agg #[.int .i64 1, .int .i64 (-1)], .bool true]) ∧ Since w w' := by
  have h := cr_pixel ⟨1, 32, -33, 1⟩ (fun _ => by unfold ShOK; simp only; omega) w
  rw [al_p1, al_p2, al_p3] at h
  exact h
theorem al_of1 (w : World) : Calls Try.prog 32 #[.int .i64 32] w fun e w' => e = .returned (.agg #[.int .i64 0, .int .u64 32]) ∧ Since w w' := wide_of 32 (by unfold InW; omega) w
theorem al_of2 (w : World) : Calls Try.prog 32 #[.int .i64 (-33)] w fun e w' => e = .returned (.agg #[.int .i64 (-1), .int .u64 18446744073709551583]) ∧ Since w w' := wide_of (-33) (by unfold InW; omega) w
theorem al_of3 (w : World) : Calls Try.prog 32 #[.int .i64 64] w fun e w' => e = .returned (.agg #[.int .i64 0, .int .u64 64]) ∧ Since w w' := wide_of 64 (by unfold InW; omega) w
theorem al_of4 (w : World) : Calls Try.prog 32 #[.int .i64 4] w fun e w' => e = .returned (.agg #[.int .i64 0, .int .u64 4]) ∧ Since w w' := wide_of 4 (by unfold InW; omega) w
set_option maxRecDepth 100000 in
set_option maxHeartbeats 16000000 in
theorem alive15 (w : World) : Calls Try.prog 11 #[] w fun e w' => e = .returned (.bool true) ∧ Since w w' := by
  go_enter Try.func11, Try.ntmps11
  have hT : Since w w := Since.refl w
  go_upto_region 2 with (first | (go_at_call 31; (with_reducible refine (law_line _ _ _ _ _).mono ?_); rintro e wk ⟨rfl, hSk⟩; have hT := hT.trans hSk; clear hSk) | (go_at_call 17; (with_reducible refine (al_meet1 _).mono ?_); rintro e wm ⟨rfl, hSk⟩; have hT := hT.trans hSk; clear hSk))
  refine wp_named fun wx hwx => ?_
  have rN : Row wx wm.heap.size 6 (Cf ⟨1, 64, 64, 32⟩) := by subst hwx; exact crow wm _ rfl _ ⟨1, 64, 64, 32⟩
  have hU : Since wm wx := by subst hwx; (repeat (first | with_reducible (exact Since.refl _) | with_reducible assumption | with_reducible (refine Since.drew ?_) | with_reducible (refine Since.drewN ?_ _) | with_reducible (refine Since.alloc ?_ _) | (with_reducible (refine Since.setCell ?_ ?_ _); rotate_left; focus (first | (simp; done) | (simp; omega) | omega)) | (with_reducible (refine Since.trans ?_ (by with_reducible assumption)))))
  have hT := hT.trans hU
  clear hwx hU
  generalize wm.heap.size = b1 at *
  have r1 := rN
  clear rN
  go_upto_region 3 with (first | (go_at_call 31; (with_reducible refine (law_line _ _ _ _ _).mono ?_); rintro e wk ⟨rfl, hSk⟩; have hT := hT.trans hSk; have r1 := r1.since hSk; clear hSk) | (go_at_call 17; (with_reducible refine (al_meet2 _).mono ?_); rintro e wm ⟨rfl, hSk⟩; have hT := hT.trans hSk; have r1 := r1.since hSk; clear hSk))
  refine wp_named fun wx hwx => ?_
  have rN : Row wx wm.heap.size 6 (Cf ⟨2, 0, 0, 0⟩) := by subst hwx; exact crow wm _ rfl _ ⟨2, 0, 0, 0⟩
  have hU : Since wm wx := by subst hwx; (repeat (first | with_reducible (exact Since.refl _) | with_reducible assumption | with_reducible (refine Since.drew ?_) | with_reducible (refine Since.drewN ?_ _) | with_reducible (refine Since.alloc ?_ _) | (with_reducible (refine Since.setCell ?_ ?_ _); rotate_left; focus (first | (simp; done) | (simp; omega) | omega)) | (with_reducible (refine Since.trans ?_ (by with_reducible assumption)))))
  have hT := hT.trans hU
  have r1 := r1.since hU
  clear hwx hU
  generalize wm.heap.size = b2 at *
  have r2 := rN
  clear rN
  go_upto_region 4 with (first | (go_at_call 31; (with_reducible refine (law_line _ _ _ _ _).mono ?_); rintro e wk ⟨rfl, hSk⟩; have hT := hT.trans hSk; have r1 := r1.since hSk; have r2 := r2.since hSk; clear hSk) | (go_at_call 17; (with_reducible refine (al_meet3 _).mono ?_); rintro e wm ⟨rfl, hSk⟩; have hT := hT.trans hSk; have r1 := r1.since hSk; have r2 := r2.since hSk; clear hSk))
  refine wp_named fun wx hwx => ?_
  have rN : Row wx wm.heap.size 6 (Cf ⟨1, 4, 0, 1⟩) := by subst hwx; exact crow wm _ rfl _ ⟨1, 4, 0, 1⟩
  have hU : Since wm wx := by subst hwx; (repeat (first | with_reducible (exact Since.refl _) | with_reducible assumption | with_reducible (refine Since.drew ?_) | with_reducible (refine Since.drewN ?_ _) | with_reducible (refine Since.alloc ?_ _) | (with_reducible (refine Since.setCell ?_ ?_ _); rotate_left; focus (first | (simp; done) | (simp; omega) | omega)) | (with_reducible (refine Since.trans ?_ (by with_reducible assumption)))))
  have hT := hT.trans hU
  have r1 := r1.since hU
  have r2 := r2.since hU
  clear hwx hU
  generalize wm.heap.size = b3 at *
  have r3 := rN
  clear rN
  go_upto_region 5 with (first | (go_at_call 32; (with_reducible refine (al_of1 _).mono ?_); rintro e wk ⟨rfl, hSk⟩; have hT := hT.trans hSk; have r1 := r1.since hSk; have r2 := r2.since hSk; have r3 := r3.since hSk; clear hSk) | (go_at_call 32; (with_reducible refine (al_of2 _).mono ?_); rintro e wk ⟨rfl, hSk⟩; have hT := hT.trans hSk; have r1 := r1.since hSk; have r2 := r2.since hSk; have r3 := r3.since hSk; clear hSk) | (go_at_call 18; (with_reducible refine (al_pixel _).mono ?_); rintro e wm ⟨rfl, hSk⟩; have hT := hT.trans hSk; have r1 := r1.since hSk; have r2 := r2.since hSk; have r3 := r3.since hSk; clear hSk))
  refine wp_named fun wx hwx => ?_
  have r4 : Row wx wm.heap.size 2 (Pf 1 (-1)) := by subst hwx; exact prow wm _ rfl _ _ _
  have hU : Since wm wx := by subst hwx; (repeat (first | with_reducible (exact Since.refl _) | with_reducible assumption | with_reducible (refine Since.drew ?_) | with_reducible (refine Since.drewN ?_ _) | with_reducible (refine Since.alloc ?_ _) | (with_reducible (refine Since.setCell ?_ ?_ _); rotate_left; focus (first | (simp; done) | (simp; omega) | omega)) | (with_reducible (refine Since.trans ?_ (by with_reducible assumption)))))
  have hT := hT.trans hU
  have r1 := r1.since hU
  have r2 := r2.since hU
  have r3 := r3.since hU
  clear hwx hU
  obtain ⟨a1, a2, a3, a4, a5, a6, a7⟩ : wx.cell? ⟨b1, 0, none⟩ = some (.int .i64 1) ∧ wx.cell? ⟨b1, 1, none⟩ = some (.int .i64 0) ∧ wx.cell? ⟨b1, 2, none⟩ = some (.int .u64 64) ∧ wx.cell? ⟨b1, 3, none⟩ = some (.int .i64 0) ∧ wx.cell? ⟨b1, 4, none⟩ = some (.int .u64 64) ∧ wx.cell? ⟨b1, 5, none⟩ = some (.int .i64 32) ∧ b1 < wx.heap.size := ccells r1
  obtain ⟨c1, c2, c3, c4, c5, c6, c7⟩ : wx.cell? ⟨b2, 0, none⟩ = some (.int .i64 2) ∧ wx.cell? ⟨b2, 1, none⟩ = some (.int .i64 0) ∧ wx.cell? ⟨b2, 2, none⟩ = some (.int .u64 0) ∧ wx.cell? ⟨b2, 3, none⟩ = some (.int .i64 0) ∧ wx.cell? ⟨b2, 4, none⟩ = some (.int .u64 0) ∧ wx.cell? ⟨b2, 5, none⟩ = some (.int .i64 0) ∧ b2 < wx.heap.size := ccells r2
  obtain ⟨d1, d2, d3, d4, d5, d6, d7⟩ : wx.cell? ⟨b3, 0, none⟩ = some (.int .i64 1) ∧ wx.cell? ⟨b3, 1, none⟩ = some (.int .i64 0) ∧ wx.cell? ⟨b3, 2, none⟩ = some (.int .u64 4) ∧ wx.cell? ⟨b3, 3, none⟩ = some (.int .i64 0) ∧ wx.cell? ⟨b3, 4, none⟩ = some (.int .u64 0) ∧ wx.cell? ⟨b3, 5, none⟩ = some (.int .i64 1) ∧ b3 < wx.heap.size := ccells r3
  obtain ⟨e1, e2, e3⟩ := pcells r4
  clear r1 r2 r3 r4
  go_wp2_with fail
  (refine wp_named fun wr1 hwr1 => ?_; go_region_held3 (fun w' => (∀ b o, b < wr1.heap.size → w'.cell? ⟨b, o, none⟩ = wr1.cell? ⟨b, o, none⟩) ∧ (∀ b o, b < wr1.heap.size → w'.frozen? ⟨b, o, none⟩ = wr1.frozen? ⟨b, o, none⟩) ∧ (∀ k, k < wr1.heap.size → k < w'.heap.size) ∧ Below wr1.heap.size wr1 w') ((subst hwr1; (repeat (with_reducible (refine since_put ?_ ?_ _); rotate_left; focus (first | (simp; done) | (simp; omega) | omega))); first | assumption | (refine since_step (by assumption) ?_; first | assumption | ((repeat (first | with_reducible (exact Since.refl _) | with_reducible assumption | with_reducible (refine Since.drew ?_) | with_reducible (refine Since.drewN ?_ _) | with_reducible (refine Since.alloc ?_ _) | (with_reducible (refine Since.setCell ?_ ?_ _); rotate_left; focus (first | (simp; done) | (simp; omega) | omega)))); done)) | (refine since_step (Since.refl _) ?_; first | assumption | ((repeat (first | with_reducible (exact Since.refl _) | with_reducible assumption | with_reducible (refine Since.drew ?_) | with_reducible (refine Since.drewN ?_ _) | with_reducible (refine Since.alloc ?_ _) | (with_reducible (refine Since.setCell ?_ ?_ _); rotate_left; focus (first | (simp; done) | (simp; omega) | omega)) | (with_reducible (refine Since.trans ?_ (by with_reducible assumption))))); done)))) (first | (go_at_call 32; (with_reducible refine (al_of3 _).mono ?_); rintro e w1 ⟨rfl, hS⟩; have hZ := hS.below.size; (try simp at hZ)) | (go_at_call 32; (with_reducible refine (al_of4 _).mono ?_); rintro e w1 ⟨rfl, hS⟩; have hZ := hS.below.size; (try simp at hZ))); all_goals (rename_i hHeld; have hR1 : Since wr1 _ := hHeld; obtain ⟨hcR1, hfR1, hzR1, hbR1⟩ := hHeld; subst hwr1))
  all_goals go_wp2
  all_goals go_ret
  all_goals exact ⟨rfl, by (repeat (first | with_reducible (exact Since.refl _) | with_reducible assumption | with_reducible (refine Since.drew ?_) | with_reducible (refine Since.drewN ?_ _) | with_reducible (refine Since.alloc ?_ _) | (with_reducible (refine Since.setCell ?_ ?_ _); rotate_left; focus (first | (simp; done) | (simp; omega) | omega)) | (with_reducible (refine Since.trans ?_ (by with_reducible assumption)))))⟩
end Go.Proofs.Ytmimdicflmgchaa
