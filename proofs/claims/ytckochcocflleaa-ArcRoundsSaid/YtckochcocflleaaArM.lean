/-
  Layer 22: the laws ArcAlong and ArcDiscs, walked.
-/
import Derived.Test.YtckochcocflleaaArL
import Derived.Deep.QuietTactic
import Derived.BigQuiet
namespace Go.Proofs.Ytckochcocflleaa
open Go.RowKit Go.ChangeShapes Go.WideShapes Go.Deep
set_option linter.unusedVariables false

theorem pt_eq (x y u v : Int) : (x == u && y == v) = decide (x = u ∧ y = v) := by
  rw [Bool.eq_iff_iff]; simp
set_option maxRecDepth 100000 in
set_option maxHeartbeats 8000000 in
theorem walk_along (x y r : Int) (hx : In64 x) (hy : In64 y) (w : World) :
    Calls Try.prog 8 #[Pt x y, .int .i64 r] w fun e w' => e = .returned (.bool true) ∧ Since w w' := by
  have hA := fun w => ar_along x y r w
  have hN := fun w => ar_normal x y r hy w
  have hE := fun w => rf_errs x y r w
  by_cases hz : alE x y r = 0
  · obtain ⟨⟨r0, r1⟩, ⟨x0, x1, y0, y1⟩, hn⟩ := alE_zero hz
    obtain ⟨f1, f2, _⟩ := al_facts hn r0
    have hR1 := fun w => rf_along x y r hz w
    have hL := fun w => rf_left x y (by omega) w
    have hz2 : alE (-y) x r = 0 := by
      have h := alE_turn (x := x) (r := r) hy
      rw [IntWalk.i64_in _ (show _ ∧ _ by omega)] at h
      rw [h, hz]
    have hR2 := fun w => rf_along (-y) x r hz2 w
    rw [f1, f2] at hR2
    unfold alXe alYe at hA
    unfold noXe noYe at hN
    rw [if_pos hz, if_pos hz, hz] at hA hN
    rw [hz] at hE
    unfold Pt at *
    generalize alX x y r = p at *
    generalize alY x y r = q at *
    have q1 : (p == p && q == q) = true := by simp
    have q2 : (-q == -q && p == p) = true := by simp
    have hn1 : -y ≠ x ∨ x ≠ y := by omega
    have HA := Lib.hid hA; have HN := Lib.hid hN; have HE := Lib.hid hE; have HR1 := Lib.hid hR1; have HR2 := Lib.hid hR2; have HL := Lib.hid hL
    clear hA hN hE hR1 hR2 hL hz hz2 f1 f2 r0 r1 x0 x1 y0 y1 hn hx hy hn1
    have tok1 := True.intro
    go_enter Try.func8, Try.ntmps8
    go_upto_region 10 with (first | (go_at_call 31; refine (alive22 _).mono ?_; rintro e w1 ⟨rfl, hS1⟩; have hP1 := (pt_new w _ rfl x y _).since hS1; have hT1 : Since w w1 := (by (repeat (first | with_reducible (exact Since.refl _) | with_reducible assumption | with_reducible (refine Since.drew ?_) | with_reducible (refine Since.drewN ?_ _) | with_reducible (refine Since.alloc ?_ _) | (with_reducible (refine Since.setCell ?_ ?_ _); rotate_left; focus (first | (simp; done) | (simp; omega) | omega)) | (with_reducible (refine Since.trans ?_ (by with_reducible assumption)))))); clear hS1; obtain ⟨c1, c2, c3⟩ := id hP1) | (go_at_call 32; (with_reducible refine (HA.out _).mono ?_); rintro e w2 ⟨rfl, hS2⟩; have hP2 := hP1.since hS2; have hT2 := hT1.trans hS2; clear c1 c2 c3 hP1 hS2; obtain ⟨c1, c2, c3⟩ := id hP2) | (go_at_call 33; (with_reducible refine (HN.out _).mono ?_); rintro e w3 ⟨rfl, hS3⟩; have hP3 := (hP2.alloc _).since hS3; have hQ3 := (pt_new w2 _ rfl p q _).since hS3; have hT3 : Since w w3 := (by (repeat (first | with_reducible (exact Since.refl _) | with_reducible assumption | with_reducible (refine Since.drew ?_) | with_reducible (refine Since.drewN ?_ _) | with_reducible (refine Since.alloc ?_ _) | (with_reducible (refine Since.setCell ?_ ?_ _); rotate_left; focus (first | (simp; done) | (simp; omega) | omega)) | (with_reducible (refine Since.trans ?_ (by with_reducible assumption)))))); clear c1 c2 c3 hP2 hS3; obtain ⟨c1, c2, c3⟩ := id hP3; obtain ⟨d1, d2, d3⟩ := id hQ3) | (go_at_call 34; (with_reducible refine (HE.out _).mono ?_); rintro e w4 ⟨rfl, hS4⟩; have hP4 := (hP3.alloc _).since hS4; have hQ4 := (hQ3.alloc _).since hS4; have hR4 := (pt_new w3 _ rfl (-q) p _).since hS4; have hT4 : Since w w4 := (by (repeat (first | with_reducible (exact Since.refl _) | with_reducible assumption | with_reducible (refine Since.drew ?_) | with_reducible (refine Since.drewN ?_ _) | with_reducible (refine Since.alloc ?_ _) | (with_reducible (refine Since.setCell ?_ ?_ _); rotate_left; focus (first | (simp; done) | (simp; omega) | omega)) | (with_reducible (refine Since.trans ?_ (by with_reducible assumption)))))); clear c1 c2 c3 d1 d2 d3 hP3 hQ3 hS4; obtain ⟨c1, c2, c3⟩ := id hP4; obtain ⟨d1, d2, d3⟩ := id hQ4; obtain ⟨e1, e2, e3⟩ := id hR4))
    clear hP4 hQ4 hR4
    have tok8 : True := trivial
    have tok9 : True := trivial
    (refine wp_named fun wr5 hwr5 => ?_; go_region_held3 (fun w' => (∀ b o, b < wr5.heap.size → w'.cell? ⟨b, o, none⟩ = wr5.cell? ⟨b, o, none⟩) ∧ (∀ b o, b < wr5.heap.size → w'.frozen? ⟨b, o, none⟩ = wr5.frozen? ⟨b, o, none⟩) ∧ (∀ k, k < wr5.heap.size → k < w'.heap.size) ∧ Below wr5.heap.size wr5 w') ((subst hwr5; (repeat (with_reducible (refine since_put ?_ ?_ _); rotate_left; focus (first | (simp; done) | (simp; omega) | omega))); first | with_reducible assumption | (refine since_step (by with_reducible assumption) ?_; first | with_reducible assumption | ((repeat (first | with_reducible (exact Since.refl _) | with_reducible assumption | with_reducible (refine Since.drew ?_) | with_reducible (refine Since.drewN ?_ _) | with_reducible (refine Since.alloc ?_ _) | (with_reducible (refine Since.setCell ?_ ?_ _); rotate_left; focus (first | (simp; done) | (simp; omega) | omega)))); done)) | (refine since_step (Since.refl _) ?_; first | with_reducible assumption | ((repeat (first | with_reducible (exact Since.refl _) | with_reducible assumption | with_reducible (refine Since.drew ?_) | with_reducible (refine Since.drewN ?_ _) | with_reducible (refine Since.alloc ?_ _) | (with_reducible (refine Since.setCell ?_ ?_ _); rotate_left; focus (first | (simp; done) | (simp; omega) | omega)) | (with_reducible (refine Since.trans ?_ (by with_reducible assumption))))); done)))) (first | (go_at_call 36; (with_reducible refine (HL.out _).mono ?_); rintro e w8 ⟨rfl, hS8⟩; have hZ8 := hS8.below.size; (try simp at hZ8)) | (go_at_call 35; have _t := tok8; (with_reducible refine (HR1.out _).mono ?_); rintro e w8 ⟨rfl, hS8⟩; have hZ8 := hS8.below.size; (try simp at hZ8); clear tok8) | (go_at_call 35; have _t := tok9; (with_reducible refine (HR2.out _).mono ?_); rintro e w9 ⟨rfl, hS9⟩; have hZ9 := hS9.below.size; (try simp at hZ9); clear tok9)); all_goals (rename_i hHeld; have hR5 : Since wr5 _ := hHeld; obtain ⟨hcR5, hfR5, hzR5, hbR5⟩ := hHeld; subst hwr5))
    all_goals (go_wp2_with fail)
    all_goals go_ret
    all_goals exact ⟨by first | rfl | simp, by (repeat (first | with_reducible (exact Since.refl _) | with_reducible assumption | with_reducible (refine Since.drew ?_) | with_reducible (refine Since.drewN ?_ _) | with_reducible (refine Since.alloc ?_ _) | (with_reducible (refine Since.setCell ?_ ?_ _); rotate_left; focus (first | (simp; done) | (simp; omega) | omega)) | (with_reducible (refine Since.trans ?_ (by with_reducible assumption)))))⟩
  · have hE0 : (alE x y r == 0) = false := by simp [hz]
    unfold alXe alYe at hA
    unfold noXe noYe at hN
    rw [if_neg hz, if_neg hz] at hA hN
    unfold Pt at *
    generalize alE x y r = E at *
    have HA := Lib.hid hA; have HN := Lib.hid hN; have HE := Lib.hid hE
    clear hA hN hE hx hy
    go_enter Try.func8, Try.ntmps8
    go_wp2_with (first | (go_at_call 31; refine (alive22 _).mono ?_; rintro e w1 ⟨rfl, hS1⟩; have hP1 := (pt_new w _ rfl x y _).since hS1; have hT1 : Since w w1 := (by (repeat (first | with_reducible (exact Since.refl _) | with_reducible assumption | with_reducible (refine Since.drew ?_) | with_reducible (refine Since.drewN ?_ _) | with_reducible (refine Since.alloc ?_ _) | (with_reducible (refine Since.setCell ?_ ?_ _); rotate_left; focus (first | (simp; done) | (simp; omega) | omega)) | (with_reducible (refine Since.trans ?_ (by with_reducible assumption)))))); clear hS1; obtain ⟨c1, c2, c3⟩ := id hP1) | (go_at_call 32; (with_reducible refine (HA.out _).mono ?_); rintro e w2 ⟨rfl, hS2⟩; have hP2 := hP1.since hS2; have hT2 := hT1.trans hS2; clear c1 c2 c3 hP1 hS2; obtain ⟨c1, c2, c3⟩ := id hP2) | (go_at_call 33; (with_reducible refine (HN.out _).mono ?_); rintro e w3 ⟨rfl, hS3⟩; have hP3 := (hP2.alloc _).since hS3; have hQ3 := (pt_new w2 _ rfl 0 0 _).since hS3; have hT3 : Since w w3 := (by (repeat (first | with_reducible (exact Since.refl _) | with_reducible assumption | with_reducible (refine Since.drew ?_) | with_reducible (refine Since.drewN ?_ _) | with_reducible (refine Since.alloc ?_ _) | (with_reducible (refine Since.setCell ?_ ?_ _); rotate_left; focus (first | (simp; done) | (simp; omega) | omega)) | (with_reducible (refine Since.trans ?_ (by with_reducible assumption)))))); clear c1 c2 c3 hP2 hS3; obtain ⟨c1, c2, c3⟩ := id hP3; obtain ⟨d1, d2, d3⟩ := id hQ3) | (go_at_call 34; (with_reducible refine (HE.out _).mono ?_); rintro e w4 ⟨rfl, hS4⟩; have hP4 := (hP3.alloc _).since hS4; have hQ4 := (hQ3.alloc _).since hS4; have hR4 := (pt_new w3 _ rfl 0 0 _).since hS4; have hT4 : Since w w4 := (by (repeat (first | with_reducible (exact Since.refl _) | with_reducible assumption | with_reducible (refine Since.drew ?_) | with_reducible (refine Since.drewN ?_ _) | with_reducible (refine Since.alloc ?_ _) | (with_reducible (refine Since.setCell ?_ ?_ _); rotate_left; focus (first | (simp; done) | (simp; omega) | omega)) | (with_reducible (refine Since.trans ?_ (by with_reducible assumption)))))); clear c1 c2 c3 d1 d2 d3 hP3 hQ3 hS4; obtain ⟨c1, c2, c3⟩ := id hP4; obtain ⟨d1, d2, d3⟩ := id hQ4; obtain ⟨e1, e2, e3⟩ := id hR4))
    go_ret
    exact ⟨by first | rfl | simp, by (repeat (first | with_reducible (exact Since.refl _) | with_reducible assumption | with_reducible (refine Since.drew ?_) | with_reducible (refine Since.drewN ?_ _) | with_reducible (refine Since.alloc ?_ _) | (with_reducible (refine Since.setCell ?_ ?_ _); rotate_left; focus (first | (simp; done) | (simp; omega) | omega)) | (with_reducible (refine Since.trans ?_ (by with_reducible assumption)))))⟩
end Go.Proofs.Ytckochcocflleaa
