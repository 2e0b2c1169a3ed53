/-
  Layer 10: the law GaussProducts, walked.
-/
import Derived.Test.YtbbbojhncfdbdaaGaI
namespace Go.Proofs.Ytbbbojhncfdbdaa
open Go.RowKit
set_option linter.unusedVariables false

theorem good0 (w : World) : Calls Try.prog 20 #[.slice none 0 0] w fun e w' => e = .returned (.bool true) ∧ Since w w' := by
  have h := ga_good none 0 0 (fun _ => 0) (fun _ => 0) w RdP.zero (fun j hj => absurd hj (by omega)) (by decide)
  simpa [allG] using h

theorem good1d (w : World) (b : Nat) (hb : b = w.heap.size) (x y : Int) (t : TypeId) (h : InP x y) : Calls Try.prog 20 #[.slice (some ⟨b, 0, none⟩) 1 1] (w.alloc (.cells #[.int .i64 x, .int .i64 y] t)).drew fun e w' => e = .returned (.bool (goodB x y)) ∧ Since (w.alloc (.cells #[.int .i64 x, .int .i64 y] t)).drew w' := by
  have h := ga_good _ 1 1 _ _ (w.alloc (.cells #[.int .i64 x, .int .i64 y] t)).drew (rdp_one w b hb x y t) (fun j hj => h) (by decide)
  simpa [allG] using h
theorem good2d (w : World) (b : Nat) (hb : b = w.heap.size) (x y u v : Int) (t : TypeId) (h : InP x y) (h' : InP u v) : Calls Try.prog 20 #[.slice (some ⟨b, 0, none⟩) 2 2] (w.alloc (.cells #[.int .i64 x, .int .i64 y, .int .i64 u, .int .i64 v] t)).drew fun e w' => e = .returned (.bool (goodB x y && goodB u v)) ∧ Since (w.alloc (.cells #[.int .i64 x, .int .i64 y, .int .i64 u, .int .i64 v] t)).drew w' := by
  have h := ga_good _ 2 2 _ _ (w.alloc (.cells #[.int .i64 x, .int .i64 y, .int .i64 u, .int .i64 v] t)).drew (rdp_two w b hb x y u v t) (fun j hj => by unfold two; split; exact h; exact h') (by decide)
  simpa [allG, two] using h

set_option maxRecDepth 100000 in
set_option maxHeartbeats 8000000 in
theorem products_no1 (x y u v : Int) (h : InP x y) (h' : InP u v) (hg1 : goodB x y = false) (w : World) :
    Calls Try.prog 3 #[Pt x y, Pt u v] w fun e w' => e = .returned (.bool true) ∧ Since w w' := by
    have cA := fun w => rf_good x y w
    have cB := fun w => rf_good u v w
    have cC := fun w => ga_cross x y u v h h' w
    have cD := fun w => ga_dot x y u v h h' w
    have cT := fun w => ga_times x y u v h h' w
    have cG2 := fun w b hb t => good2 w b hb x y u v t h h'
    have cG1 := fun w b hb t => good1 w b hb x y t h
    have dG2 := fun w b hb t => good2d w b hb x y u v t h h'
    have dG1 := fun w b hb t => good1d w b hb x y t h
    rw [hg1] at cA cC cD cT cG2 cG1 dG2 dG1
    simp only [Bool.false_and, Bool.false_eq_true, if_false, okE] at cC cD cT cG2 dG2
    clear cB hg1
    unfold Pt at *
    have CA := Lib.hid cA; have CC := Lib.hid cC; have CD := Lib.hid cD; have CT := Lib.hid cT; have CG2 := Lib.hid cG2; have CG1 := Lib.hid cG1; have DG2 := Lib.hid dG2; have DG1 := Lib.hid dG1
    clear cA cC cD cT cG2 cG1 dG2 dG1 h h'
    go_enter Try.func3, Try.ntmps3
    go_wp2_with (first | (go_at_call 15; (with_reducible refine (alive10 _).mono ?_); rintro e w1 ⟨rfl, hS1⟩; have hA1 := ((pt_new w _ rfl x y _).alloc _).since hS1; have hB1 := (pt_new _ (w.heap.size + 1) (by simp) u v _).since hS1; have hT1 : Since w w1 := (by (repeat (first | with_reducible (exact Since.refl _) | with_reducible assumption | with_reducible (refine Since.drew ?_) | with_reducible (refine Since.drewN ?_ _) | with_reducible (refine Since.alloc ?_ _) | (with_reducible (refine Since.setCell ?_ ?_ _); rotate_left; focus (first | (simp; done) | (simp; omega) | omega)) | (with_reducible (refine Since.trans ?_ (by with_reducible assumption)))))); obtain ⟨a1, a2, a3⟩ := hA1; obtain ⟨b1, b2, b3⟩ := hB1; clear hS1; have tok1 := True.intro) | (go_at_call 16; have _t := tok1; (with_reducible refine (CA.out _).mono ?_); rintro e w2 ⟨rfl, hS2⟩; have hA2 := PtAt.since ⟨a1, a2, a3⟩ hS2; have hB2 := PtAt.since ⟨b1, b2, b3⟩ hS2; have hT2 := hT1.trans hS2; clear a1 a2 a3 b1 b2 b3 hT1 hS2 tok1; obtain ⟨a1, a2, a3⟩ := hA2; obtain ⟨b1, b2, b3⟩ := hB2; have tok2 := True.intro) | (go_at_call 17; refine (CC.out _).mono ?_; rintro e w3 ⟨rfl, hS3⟩; have hA3 := PtAt.since ⟨a1, a2, a3⟩ hS3; have hB3 := PtAt.since ⟨b1, b2, b3⟩ hS3; have hT3 := hT2.trans hS3; clear a1 a2 a3 b1 b2 b3 hT2 hS3; obtain ⟨a1, a2, a3⟩ := hA3; obtain ⟨b1, b2, b3⟩ := hB3) | (go_at_call 18; refine (CD.out _).mono ?_; rintro e w4 ⟨rfl, hS4⟩; have hA4 := PtAt.since ⟨a1, a2, a3⟩ hS4; have hB4 := PtAt.since ⟨b1, b2, b3⟩ hS4; have hT4 := hT3.trans hS4; clear a1 a2 a3 b1 b2 b3 hT3 hS4; obtain ⟨a1, a2, a3⟩ := hA4; obtain ⟨b1, b2, b3⟩ := hB4) | (go_at_call 19; refine (CT.out _).mono ?_; rintro e w5 ⟨rfl, hS5⟩; have hA5 := PtAt.since ⟨a1, a2, a3⟩ hS5; have hB5 := PtAt.since ⟨b1, b2, b3⟩ hS5; have hT5 := hT4.trans hS5; clear a1 a2 a3 b1 b2 b3 hT4 hS5))
    refine wp_named fun w6 hw6 => ?_
    have hA6 : PtAt w6 w.heap.size x y := by subst hw6; exact hA5.alloc _
    have hB6 : PtAt w6 (w.heap.size + 1) u v := by subst hw6; exact hB5.alloc _
    have hP6 : PtAt w6 w5.heap.size 0 0 := by subst hw6; exact pt_new w5 _ rfl 0 0 _
    have hT6 : Since w w6 := by subst hw6; exact hT5.alloc _
    clear hw6 hA5 hB5 hT5
    obtain ⟨a1, a2, a3⟩ := hA6
    obtain ⟨b1, b2, b3⟩ := hB6
    obtain ⟨p1, p2, p3⟩ := hP6
    (refine wp_named fun wr1 hwr1 => ?_; go_region_held3 (fun w' => (∀ b o, b < wr1.heap.size → w'.cell? ⟨b, o, none⟩ = wr1.cell? ⟨b, o, none⟩) ∧ (∀ b o, b < wr1.heap.size → w'.frozen? ⟨b, o, none⟩ = wr1.frozen? ⟨b, o, none⟩) ∧ (∀ k, k < wr1.heap.size → k < w'.heap.size) ∧ Below wr1.heap.size wr1 w') ((subst hwr1; (repeat (with_reducible (refine since_put ?_ ?_ _); rotate_left; focus (first | (simp; done) | (simp; omega) | omega))); first | assumption | (refine since_step (by assumption) ?_; first | assumption | ((repeat (first | with_reducible (exact Since.refl _) | with_reducible assumption | with_reducible (refine Since.drew ?_) | with_reducible (refine Since.drewN ?_ _) | with_reducible (refine Since.alloc ?_ _) | (with_reducible (refine Since.setCell ?_ ?_ _); rotate_left; focus (first | (simp; done) | (simp; omega) | omega)))); done)) | (refine since_step (Since.refl _) ?_; first | assumption | ((repeat (first | with_reducible (exact Since.refl _) | with_reducible assumption | with_reducible (refine Since.drew ?_) | with_reducible (refine Since.drewN ?_ _) | with_reducible (refine Since.alloc ?_ _) | (with_reducible (refine Since.setCell ?_ ?_ _); rotate_left; focus (first | (simp; done) | (simp; omega) | omega)) | (with_reducible (refine Since.trans ?_ (by with_reducible assumption))))); done)))) (first | (go_at_call 20; (with_reducible refine (DG2.out _ _ (by simp) _).mono ?_); rintro e w1 ⟨rfl, hS⟩; have hZ := hS.below.size; (try simp at hZ)) | (go_at_call 20; (with_reducible refine (DG1.out _ _ (by simp) _).mono ?_); rintro e w1 ⟨rfl, hS⟩; have hZ := hS.below.size; (try simp at hZ)) | (go_at_call 20; (with_reducible refine (CG2.out _ _ (by simp) _).mono ?_); rintro e w1 ⟨rfl, hS⟩; have hZ := hS.below.size; (try simp at hZ)) | (go_at_call 20; (with_reducible refine (CG1.out _ _ (by simp) _).mono ?_); rintro e w1 ⟨rfl, hS⟩; have hZ := hS.below.size; (try simp at hZ)) | (go_at_call 20; (with_reducible refine (good0 _).mono ?_); rintro e w1 ⟨rfl, hS⟩; have hZ := hS.below.size; (try simp at hZ)) | (go_at_call 16; (with_reducible refine (CA.out _).mono ?_); rintro e w1 ⟨rfl, hS⟩; have hZ := hS.below.size; (try simp at hZ))); all_goals (rename_i hHeld; have hR1 : Since wr1 _ := hHeld; obtain ⟨hcR1, hfR1, hzR1, hbR1⟩ := hHeld; subst hwr1))
    all_goals go_wp2
    all_goals go_ret
    all_goals exact ⟨rfl, by (repeat (first | with_reducible (exact Since.refl _) | with_reducible assumption | with_reducible (refine Since.drew ?_) | with_reducible (refine Since.drewN ?_ _) | with_reducible (refine Since.alloc ?_ _) | (with_reducible (refine Since.setCell ?_ ?_ _); rotate_left; focus (first | (simp; done) | (simp; omega) | omega)) | (with_reducible (refine Since.trans ?_ (by with_reducible assumption)))))⟩

set_option maxRecDepth 100000 in
set_option maxHeartbeats 8000000 in
theorem products_no2 (x y u v : Int) (h : InP x y) (h' : InP u v) (hg1 : goodB x y = true) (hg2 : goodB u v = false) (w : World) :
    Calls Try.prog 3 #[Pt x y, Pt u v] w fun e w' => e = .returned (.bool true) ∧ Since w w' := by
    have cA := fun w => rf_good x y w
    have cB := fun w => rf_good u v w
    have cC := fun w => ga_cross x y u v h h' w
    have cD := fun w => ga_dot x y u v h h' w
    have cT := fun w => ga_times x y u v h h' w
    have cG2 := fun w b hb t => good2 w b hb x y u v t h h'
    have cG1 := fun w b hb t => good1 w b hb x y t h
    have dG2 := fun w b hb t => good2d w b hb x y u v t h h'
    have dG1 := fun w b hb t => good1d w b hb x y t h
    rw [hg1] at cA cC cD cT cG2 cG1 dG2 dG1
    rw [hg2] at cB cC cD cT cG2 dG2
    simp only [Bool.and_false, Bool.false_eq_true, if_false, okE] at cC cD cT cG2 dG2
    have CB := Lib.hid cB
    clear cB hg1 hg2
    unfold Pt at *
    have CA := Lib.hid cA; have CC := Lib.hid cC; have CD := Lib.hid cD; have CT := Lib.hid cT; have CG2 := Lib.hid cG2; have CG1 := Lib.hid cG1; have DG2 := Lib.hid dG2; have DG1 := Lib.hid dG1
    clear cA cC cD cT cG2 cG1 dG2 dG1 h h'
    go_enter Try.func3, Try.ntmps3
    go_wp2_with (first | (go_at_call 15; (with_reducible refine (alive10 _).mono ?_); rintro e w1 ⟨rfl, hS1⟩; have hA1 := ((pt_new w _ rfl x y _).alloc _).since hS1; have hB1 := (pt_new _ (w.heap.size + 1) (by simp) u v _).since hS1; have hT1 : Since w w1 := (by (repeat (first | with_reducible (exact Since.refl _) | with_reducible assumption | with_reducible (refine Since.drew ?_) | with_reducible (refine Since.drewN ?_ _) | with_reducible (refine Since.alloc ?_ _) | (with_reducible (refine Since.setCell ?_ ?_ _); rotate_left; focus (first | (simp; done) | (simp; omega) | omega)) | (with_reducible (refine Since.trans ?_ (by with_reducible assumption)))))); obtain ⟨a1, a2, a3⟩ := hA1; obtain ⟨b1, b2, b3⟩ := hB1; clear hS1; have tok1 := True.intro) | (go_at_call 16; have _t := tok1; (with_reducible refine (CA.out _).mono ?_); rintro e w2 ⟨rfl, hS2⟩; have hA2 := PtAt.since ⟨a1, a2, a3⟩ hS2; have hB2 := PtAt.since ⟨b1, b2, b3⟩ hS2; have hT2 := hT1.trans hS2; clear a1 a2 a3 b1 b2 b3 hT1 hS2 tok1; obtain ⟨a1, a2, a3⟩ := hA2; obtain ⟨b1, b2, b3⟩ := hB2; have tok2 := True.intro) | (go_at_call 16; have _t := tok2; (with_reducible refine (CB.out _).mono ?_); rintro e wb ⟨rfl, hSb⟩; have hAb := PtAt.since ⟨a1, a2, a3⟩ hSb; have hBb := PtAt.since ⟨b1, b2, b3⟩ hSb; have hTb := hT2.trans hSb; clear a1 a2 a3 b1 b2 b3 hT2 hSb tok2; have hT2 := hTb; obtain ⟨a1, a2, a3⟩ := hAb; obtain ⟨b1, b2, b3⟩ := hBb) | (go_at_call 17; refine (CC.out _).mono ?_; rintro e w3 ⟨rfl, hS3⟩; have hA3 := PtAt.since ⟨a1, a2, a3⟩ hS3; have hB3 := PtAt.since ⟨b1, b2, b3⟩ hS3; have hT3 := hT2.trans hS3; clear a1 a2 a3 b1 b2 b3 hT2 hS3; obtain ⟨a1, a2, a3⟩ := hA3; obtain ⟨b1, b2, b3⟩ := hB3) | (go_at_call 18; refine (CD.out _).mono ?_; rintro e w4 ⟨rfl, hS4⟩; have hA4 := PtAt.since ⟨a1, a2, a3⟩ hS4; have hB4 := PtAt.since ⟨b1, b2, b3⟩ hS4; have hT4 := hT3.trans hS4; clear a1 a2 a3 b1 b2 b3 hT3 hS4; obtain ⟨a1, a2, a3⟩ := hA4; obtain ⟨b1, b2, b3⟩ := hB4) | (go_at_call 19; refine (CT.out _).mono ?_; rintro e w5 ⟨rfl, hS5⟩; have hA5 := PtAt.since ⟨a1, a2, a3⟩ hS5; have hB5 := PtAt.since ⟨b1, b2, b3⟩ hS5; have hT5 := hT4.trans hS5; clear a1 a2 a3 b1 b2 b3 hT4 hS5))
    refine wp_named fun w6 hw6 => ?_
    have hA6 : PtAt w6 w.heap.size x y := by subst hw6; exact hA5.alloc _
    have hB6 : PtAt w6 (w.heap.size + 1) u v := by subst hw6; exact hB5.alloc _
    have hP6 : PtAt w6 w5.heap.size 0 0 := by subst hw6; exact pt_new w5 _ rfl 0 0 _
    have hT6 : Since w w6 := by subst hw6; exact hT5.alloc _
    clear hw6 hA5 hB5 hT5
    obtain ⟨a1, a2, a3⟩ := hA6
    obtain ⟨b1, b2, b3⟩ := hB6
    obtain ⟨p1, p2, p3⟩ := hP6
    (refine wp_named fun wr1 hwr1 => ?_; go_region_held3 (fun w' => (∀ b o, b < wr1.heap.size → w'.cell? ⟨b, o, none⟩ = wr1.cell? ⟨b, o, none⟩) ∧ (∀ b o, b < wr1.heap.size → w'.frozen? ⟨b, o, none⟩ = wr1.frozen? ⟨b, o, none⟩) ∧ (∀ k, k < wr1.heap.size → k < w'.heap.size) ∧ Below wr1.heap.size wr1 w') ((subst hwr1; (repeat (with_reducible (refine since_put ?_ ?_ _); rotate_left; focus (first | (simp; done) | (simp; omega) | omega))); first | assumption | (refine since_step (by assumption) ?_; first | assumption | ((repeat (first | with_reducible (exact Since.refl _) | with_reducible assumption | with_reducible (refine Since.drew ?_) | with_reducible (refine Since.drewN ?_ _) | with_reducible (refine Since.alloc ?_ _) | (with_reducible (refine Since.setCell ?_ ?_ _); rotate_left; focus (first | (simp; done) | (simp; omega) | omega)))); done)) | (refine since_step (Since.refl _) ?_; first | assumption | ((repeat (first | with_reducible (exact Since.refl _) | with_reducible assumption | with_reducible (refine Since.drew ?_) | with_reducible (refine Since.drewN ?_ _) | with_reducible (refine Since.alloc ?_ _) | (with_reducible (refine Since.setCell ?_ ?_ _); rotate_left; focus (first | (simp; done) | (simp; omega) | omega)) | (with_reducible (refine Since.trans ?_ (by with_reducible assumption))))); done)))) (first | (go_at_call 20; (with_reducible refine (DG2.out _ _ (by simp) _).mono ?_); rintro e w1 ⟨rfl, hS⟩; have hZ := hS.below.size; (try simp at hZ)) | (go_at_call 20; (with_reducible refine (DG1.out _ _ (by simp) _).mono ?_); rintro e w1 ⟨rfl, hS⟩; have hZ := hS.below.size; (try simp at hZ)) | (go_at_call 20; (with_reducible refine (CG2.out _ _ (by simp) _).mono ?_); rintro e w1 ⟨rfl, hS⟩; have hZ := hS.below.size; (try simp at hZ)) | (go_at_call 20; (with_reducible refine (CG1.out _ _ (by simp) _).mono ?_); rintro e w1 ⟨rfl, hS⟩; have hZ := hS.below.size; (try simp at hZ)) | (go_at_call 20; (with_reducible refine (good0 _).mono ?_); rintro e w1 ⟨rfl, hS⟩; have hZ := hS.below.size; (try simp at hZ)) | (go_at_call 16; (with_reducible refine (CA.out _).mono ?_); rintro e w1 ⟨rfl, hS⟩; have hZ := hS.below.size; (try simp at hZ))); all_goals (rename_i hHeld; have hR1 : Since wr1 _ := hHeld; obtain ⟨hcR1, hfR1, hzR1, hbR1⟩ := hHeld; subst hwr1))
    all_goals go_wp2
    all_goals go_ret
    all_goals exact ⟨rfl, by (repeat (first | with_reducible (exact Since.refl _) | with_reducible assumption | with_reducible (refine Since.drew ?_) | with_reducible (refine Since.drewN ?_ _) | with_reducible (refine Since.alloc ?_ _) | (with_reducible (refine Since.setCell ?_ ?_ _); rotate_left; focus (first | (simp; done) | (simp; omega) | omega)) | (with_reducible (refine Since.trans ?_ (by with_reducible assumption)))))⟩

set_option maxRecDepth 100000 in
set_option maxHeartbeats 8000000 in
theorem products_yes (x y u v : Int) (h : InP x y) (h' : InP u v) (hg1 : goodB x y = true) (hg2 : goodB u v = true) (w : World) :
    Calls Try.prog 3 #[Pt x y, Pt u v] w fun e w' => e = .returned (.bool true) ∧ Since w w' := by
    have cA := fun w => rf_good x y w
    have cB := fun w => rf_good u v w
    have cC := fun w => ga_cross x y u v h h' w
    have cD := fun w => ga_dot x y u v h h' w
    have cT := fun w => ga_times x y u v h h' w
    have cG2 := fun w b hb t => good2 w b hb x y u v t h h'
    have cG1 := fun w b hb t => good1 w b hb x y t h
    have dG2 := fun w b hb t => good2d w b hb x y u v t h h'
    have dG1 := fun w b hb t => good1d w b hb x y t h
    obtain ⟨t1, t2⟩ := tiny_of hg1
    obtain ⟨t3, t4⟩ := tiny_of hg2
    have tn : Near (-y) := by unfold Tiny at t2; unfold Near; omega
    have r1 := fun w => rf_cross x y u v t1.near t2.near t3.near t4.near w
    have r2 := fun w => rf_dot x y u v t1.near t2.near t3.near t4.near w
    have r3 := fun w => rf_cross x (-y) u v t1.near tn t3.near t4.near w
    have r4 := fun w => rf_dot x (-y) u v t1.near tn t3.near t4.near w
    have e3 : crossI x (-y) u v = timesY x y u v := by unfold crossI timesY; rw [Int.neg_mul, Int.sub_neg]
    have e4 : dotI x (-y) u v = timesX x y u v := by unfold dotI timesX; rw [Int.neg_mul]; omega
    rw [e3] at r3
    rw [e4] at r4
    have hwy : IntKind.i64.wrap (-y) = -y := IntWalk.i64_in _ (by unfold Tiny at t2; omega)
    have hy1 := t2.1
    have hy2 := t2.2
    rw [hg1] at cA cC cD cT cG2 cG1 dG2 dG1
    rw [hg2] at cB cC cD cT cG2 dG2
    simp only [Bool.and_self, if_true, okE] at cC cD cT cG2 dG2
    generalize crossI x y u v = N at *
    generalize dotI x y u v = M at *
    generalize timesX x y u v = TX at *
    generalize timesY x y u v = TY at *
    have CB := Lib.hid cB
    clear cB hg1 hg2 t1 t2 t3 t4 tn e3 e4
    unfold Pt at *
    have R1 := Lib.hid r1; have R2 := Lib.hid r2; have R3 := Lib.hid r3; have R4 := Lib.hid r4
    clear r1 r2 r3 r4
    have CA := Lib.hid cA; have CC := Lib.hid cC; have CD := Lib.hid cD; have CT := Lib.hid cT; have CG2 := Lib.hid cG2; have CG1 := Lib.hid cG1; have DG2 := Lib.hid dG2; have DG1 := Lib.hid dG1
    clear cA cC cD cT cG2 cG1 dG2 dG1 h h'
    go_enter Try.func3, Try.ntmps3
    go_wp2_with (first | (go_at_call 15; (with_reducible refine (alive10 _).mono ?_); rintro e w1 ⟨rfl, hS1⟩; have hA1 := ((pt_new w _ rfl x y _).alloc _).since hS1; have hB1 := (pt_new _ (w.heap.size + 1) (by simp) u v _).since hS1; have hT1 : Since w w1 := (by (repeat (first | with_reducible (exact Since.refl _) | with_reducible assumption | with_reducible (refine Since.drew ?_) | with_reducible (refine Since.drewN ?_ _) | with_reducible (refine Since.alloc ?_ _) | (with_reducible (refine Since.setCell ?_ ?_ _); rotate_left; focus (first | (simp; done) | (simp; omega) | omega)) | (with_reducible (refine Since.trans ?_ (by with_reducible assumption)))))); obtain ⟨a1, a2, a3⟩ := hA1; obtain ⟨b1, b2, b3⟩ := hB1; clear hS1; have tok1 := True.intro) | (go_at_call 16; have _t := tok1; (with_reducible refine (CA.out _).mono ?_); rintro e w2 ⟨rfl, hS2⟩; have hA2 := PtAt.since ⟨a1, a2, a3⟩ hS2; have hB2 := PtAt.since ⟨b1, b2, b3⟩ hS2; have hT2 := hT1.trans hS2; clear a1 a2 a3 b1 b2 b3 hT1 hS2 tok1; obtain ⟨a1, a2, a3⟩ := hA2; obtain ⟨b1, b2, b3⟩ := hB2; have tok2 := True.intro) | (go_at_call 16; have _t := tok2; (with_reducible refine (CB.out _).mono ?_); rintro e wb ⟨rfl, hSb⟩; have hAb := PtAt.since ⟨a1, a2, a3⟩ hSb; have hBb := PtAt.since ⟨b1, b2, b3⟩ hSb; have hTb := hT2.trans hSb; clear a1 a2 a3 b1 b2 b3 hT2 hSb tok2; have hT2 := hTb; obtain ⟨a1, a2, a3⟩ := hAb; obtain ⟨b1, b2, b3⟩ := hBb) | (go_at_call 17; refine (CC.out _).mono ?_; rintro e w3 ⟨rfl, hS3⟩; have hA3 := PtAt.since ⟨a1, a2, a3⟩ hS3; have hB3 := PtAt.since ⟨b1, b2, b3⟩ hS3; have hT3 := hT2.trans hS3; clear a1 a2 a3 b1 b2 b3 hT2 hS3; obtain ⟨a1, a2, a3⟩ := hA3; obtain ⟨b1, b2, b3⟩ := hB3) | (go_at_call 18; refine (CD.out _).mono ?_; rintro e w4 ⟨rfl, hS4⟩; have hA4 := PtAt.since ⟨a1, a2, a3⟩ hS4; have hB4 := PtAt.since ⟨b1, b2, b3⟩ hS4; have hT4 := hT3.trans hS4; clear a1 a2 a3 b1 b2 b3 hT3 hS4; obtain ⟨a1, a2, a3⟩ := hA4; obtain ⟨b1, b2, b3⟩ := hB4) | (go_at_call 19; refine (CT.out _).mono ?_; rintro e w5 ⟨rfl, hS5⟩; have hA5 := PtAt.since ⟨a1, a2, a3⟩ hS5; have hB5 := PtAt.since ⟨b1, b2, b3⟩ hS5; have hT5 := hT4.trans hS5; clear a1 a2 a3 b1 b2 b3 hT4 hS5))
    refine wp_named fun w6 hw6 => ?_
    have hA6 : PtAt w6 w.heap.size x y := by subst hw6; exact hA5.alloc _
    have hB6 : PtAt w6 (w.heap.size + 1) u v := by subst hw6; exact hB5.alloc _
    have hP6 : PtAt w6 w5.heap.size TX TY := by subst hw6; exact pt_new w5 _ rfl TX TY _
    have hT6 : Since w w6 := by subst hw6; exact hT5.alloc _
    clear hw6 hA5 hB5 hT5
    obtain ⟨a1, a2, a3⟩ := hA6
    obtain ⟨b1, b2, b3⟩ := hB6
    obtain ⟨p1, p2, p3⟩ := hP6
    (refine wp_named fun wr1 hwr1 => ?_; go_region_held3 (fun w' => (∀ b o, b < wr1.heap.size → w'.cell? ⟨b, o, none⟩ = wr1.cell? ⟨b, o, none⟩) ∧ (∀ b o, b < wr1.heap.size → w'.frozen? ⟨b, o, none⟩ = wr1.frozen? ⟨b, o, none⟩) ∧ (∀ k, k < wr1.heap.size → k < w'.heap.size) ∧ Below wr1.heap.size wr1 w') ((subst hwr1; (repeat (with_reducible (refine since_put ?_ ?_ _); rotate_left; focus (first | (simp; done) | (simp; omega) | omega))); first | assumption | (refine since_step (by assumption) ?_; first | assumption | ((repeat (first | with_reducible (exact Since.refl _) | with_reducible assumption | with_reducible (refine Since.drew ?_) | with_reducible (refine Since.drewN ?_ _) | with_reducible (refine Since.alloc ?_ _) | (with_reducible (refine Since.setCell ?_ ?_ _); rotate_left; focus (first | (simp; done) | (simp; omega) | omega)))); done)) | (refine since_step (Since.refl _) ?_; first | assumption | ((repeat (first | with_reducible (exact Since.refl _) | with_reducible assumption | with_reducible (refine Since.drew ?_) | with_reducible (refine Since.drewN ?_ _) | with_reducible (refine Since.alloc ?_ _) | (with_reducible (refine Since.setCell ?_ ?_ _); rotate_left; focus (first | (simp; done) | (simp; omega) | omega)) | (with_reducible (refine Since.trans ?_ (by with_reducible assumption))))); done)))) (first | (go_at_call 20; (with_reducible refine (DG2.out _ _ (by simp) _).mono ?_); rintro e w1 ⟨rfl, hS⟩; have hZ := hS.below.size; (try simp at hZ)) | (go_at_call 20; (with_reducible refine (DG1.out _ _ (by simp) _).mono ?_); rintro e w1 ⟨rfl, hS⟩; have hZ := hS.below.size; (try simp at hZ)) | (go_at_call 20; (with_reducible refine (CG2.out _ _ (by simp) _).mono ?_); rintro e w1 ⟨rfl, hS⟩; have hZ := hS.below.size; (try simp at hZ)) | (go_at_call 20; (with_reducible refine (CG1.out _ _ (by simp) _).mono ?_); rintro e w1 ⟨rfl, hS⟩; have hZ := hS.below.size; (try simp at hZ)) | (go_at_call 20; (with_reducible refine (good0 _).mono ?_); rintro e w1 ⟨rfl, hS⟩; have hZ := hS.below.size; (try simp at hZ)) | (go_at_call 16; (with_reducible refine (CA.out _).mono ?_); rintro e w1 ⟨rfl, hS⟩; have hZ := hS.below.size; (try simp at hZ))); all_goals (rename_i hHeld; have hR1 : Since wr1 _ := hHeld; obtain ⟨hcR1, hfR1, hzR1, hbR1⟩ := hHeld; subst hwr1))
    go_wp2
    (refine wp_named fun wr2 hwr2 => ?_; go_region_held3 (fun w' => (∀ b o, b < wr2.heap.size → w'.cell? ⟨b, o, none⟩ = wr2.cell? ⟨b, o, none⟩) ∧ (∀ b o, b < wr2.heap.size → w'.frozen? ⟨b, o, none⟩ = wr2.frozen? ⟨b, o, none⟩) ∧ (∀ k, k < wr2.heap.size → k < w'.heap.size) ∧ Below wr2.heap.size wr2 w') ((subst hwr2; (repeat (with_reducible (refine since_put ?_ ?_ _); rotate_left; focus (first | (simp; done) | (simp; omega) | omega))); first | assumption | (refine since_step (by assumption) ?_; first | assumption | ((repeat (first | with_reducible (exact Since.refl _) | with_reducible assumption | with_reducible (refine Since.drew ?_) | with_reducible (refine Since.drewN ?_ _) | with_reducible (refine Since.alloc ?_ _) | (with_reducible (refine Since.setCell ?_ ?_ _); rotate_left; focus (first | (simp; done) | (simp; omega) | omega)))); done)) | (refine since_step (Since.refl _) ?_; first | assumption | ((repeat (first | with_reducible (exact Since.refl _) | with_reducible assumption | with_reducible (refine Since.drew ?_) | with_reducible (refine Since.drewN ?_ _) | with_reducible (refine Since.alloc ?_ _) | (with_reducible (refine Since.setCell ?_ ?_ _); rotate_left; focus (first | (simp; done) | (simp; omega) | omega)) | (with_reducible (refine Since.trans ?_ (by with_reducible assumption))))); done)))) (first | (go_at_call 21; (with_reducible refine (R1.out _).mono ?_); rintro e w1 ⟨rfl, hS⟩; have hZ := hS.below.size; (try simp at hZ)) | (go_at_call 21; (with_reducible refine (R3.out _).mono ?_); rintro e w1 ⟨rfl, hS⟩; have hZ := hS.below.size; (try simp at hZ)) | (go_at_call 22; (with_reducible refine (R2.out _).mono ?_); rintro e w1 ⟨rfl, hS⟩; have hZ := hS.below.size; (try simp at hZ)) | (go_at_call 22; (with_reducible refine (R4.out _).mono ?_); rintro e w1 ⟨rfl, hS⟩; have hZ := hS.below.size; (try simp at hZ))); all_goals (rename_i hHeld; have hR2 : Since wr2 _ := hHeld; obtain ⟨hcR2, hfR2, hzR2, hbR2⟩ := hHeld; subst hwr2))
    all_goals go_wp2
    all_goals go_ret
    all_goals exact ⟨by first | rfl | simp, by (repeat (first | with_reducible (exact Since.refl _) | with_reducible assumption | with_reducible (refine Since.drew ?_) | with_reducible (refine Since.drewN ?_ _) | with_reducible (refine Since.alloc ?_ _) | (with_reducible (refine Since.setCell ?_ ?_ _); rotate_left; focus (first | (simp; done) | (simp; omega) | omega)) | (with_reducible (refine Since.trans ?_ (by with_reducible assumption)))))⟩
theorem walk_products (x y u v : Int) (h : InP x y) (h' : InP u v) (w : World) :
    Calls Try.prog 3 #[Pt x y, Pt u v] w fun e w' => e = .returned (.bool true) ∧ Since w w' := by
  cases hg1 : goodB x y with
  | false => exact products_no1 x y u v h h' hg1 w
  | true =>
    cases hg2 : goodB u v with
    | false => exact products_no2 x y u v h h' hg1 hg2 w
    | true => exact products_yes x y u v h h' hg1 hg2 w
end Go.Proofs.Ytbbbojhncfdbdaa
