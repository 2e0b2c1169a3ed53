/-
  Texts of this seat, put together: each with its own head.
-/
import Derived.Test.YtcfghkphkmoikaaGreatMqA
import Derived.Deep.CutBlock
import Derived.Deep.DeepCutAuto

/-
  Layer 16: 'after', 'before', walked.
-/
namespace Go.Proofs.YtcfghkphkmoikaaGreat
set_option maxRecDepth 100000
open Go.RowKit
set_option linter.unusedVariables false

set_option maxRecDepth 100000 in
set_option maxHeartbeats 8000000 in
theorem px_after (w0 : World) (b : Nat) (s : Stc) (n d : Int) (o : Bool) (hn : In64 (n * s.ld)) (hd : In64 (s.ln * d)) (w : World) (hb : w0.heap.size ≤ b) (hS : Since w0 w) (hR : Row w b 6 (Stf s)) :
    Calls Tryz.prog 111 #[.pointer (some ⟨b, 0, none⟩), .agg #[.int .i64 n, .int .i64 d], .bool o] w (StPost w0 w b (aftS s n d o)) := by
  have hC := fun w => px_compare n d s.ln s.ld hn hd w
  have ha : aftS s n d o = if cmpF n d s.ln s.ld = 1 then ⟨n, d, s.hn, s.hd, o, s.ho⟩ else if cmpF n d s.ln s.ld = 0 then ⟨s.ln, s.ld, s.hn, s.hd, s.lo || o, s.ho⟩ else s := rfl
  have hcs := cmp_is (n * s.ld) (s.ln * d)
  change (cmpF n d s.ln s.ld = -1 ∧ _) ∨ (cmpF n d s.ln s.ld = 0 ∧ _) ∨ (cmpF n d s.ln s.ld = 1 ∧ _) at hcs
  obtain ⟨c0, c1, c2, c3, c4, c5, cb⟩ := stcells hR
  have hfr := hR.2.1
  have hR0 := hR
  clear hn hd
  rcases hcs with ⟨e, _⟩ | ⟨e, _⟩ | ⟨e, _⟩
  · rw [e] at hC ha
    simp at ha
    rw [ha]
    have HC := Lib.hid hC
    have HR := Lib.hid hR
    have HS := Lib.hid hS
    clear hC ha e hR hS hR0
    go_enter Tryz.func111, Tryz.ntmps111
    go_upto_region 1 with fail
    (refine wp_named fun wr1 hwr1 => ?_; go_region_held3 (fun w' => (∀ b o, b < wr1.heap.size → w'.cell? ⟨b, o, none⟩ = wr1.cell? ⟨b, o, none⟩) ∧ (∀ b o, b < wr1.heap.size → w'.frozen? ⟨b, o, none⟩ = wr1.frozen? ⟨b, o, none⟩) ∧ (∀ k, k < wr1.heap.size → k < w'.heap.size) ∧ Below wr1.heap.size wr1 w') ((subst hwr1; (repeat (with_reducible (refine since_put ?_ ?_ _); rotate_left; focus (first | (simp; done) | (simp; omega) | omega))); first | with_reducible assumption | (refine since_step (by with_reducible assumption) ?_; first | with_reducible assumption | ((repeat (first | with_reducible (exact Since.refl _) | with_reducible assumption | with_reducible (refine Since.drew ?_) | with_reducible (refine Since.drewN ?_ _) | with_reducible (refine Since.alloc ?_ _) | (with_reducible (refine Since.setCell ?_ ?_ _); rotate_left; focus (first | (simp; done) | (simp; omega) | omega)))); done)) | (refine since_step (Since.refl _) ?_; first | with_reducible assumption | ((repeat (first | with_reducible (exact Since.refl _) | with_reducible assumption | with_reducible (refine Since.drew ?_) | with_reducible (refine Since.drewN ?_ _) | with_reducible (refine Since.alloc ?_ _) | (with_reducible (refine Since.setCell ?_ ?_ _); rotate_left; focus (first | (simp; done) | (simp; omega) | omega)) | (with_reducible (refine Since.trans ?_ (by with_reducible assumption))))); done)))) ((go_at_call 113; (with_reducible refine (HC.out _).mono ?_); rintro e w1 ⟨rfl, hS1⟩; have hZ1 := hS1.below.size; (try simp at hZ1))); all_goals (rename_i hHeld; have hR1 : Since wr1 _ := hHeld; obtain ⟨hcR1, hfR1, hzR1, hbR1⟩ := hHeld; subst hwr1))
    have g4 := (hR1.1 b 4 (by simp; omega)).trans ((World.cell?_alloc_lt w _ ⟨b, 4, none⟩ cb).trans c4)
    have g5 := (hR1.1 b 5 (by simp; omega)).trans ((World.cell?_alloc_lt w _ ⟨b, 5, none⟩ cb).trans c5)
    have hRw := (HR.out.alloc (.cells #[.int .i64 n, .int .i64 d] 147)).since hR1
    have hSw := (HS.out.alloc (.cells #[.int .i64 n, .int .i64 d] 147)).trans hR1
    have hKw := ((KeepBut.refl b w).since ((Since.refl w).alloc (.cells #[.int .i64 n, .int .i64 d] 147))).since hR1
    have HRw := Lib.hid hRw; have HSw := Lib.hid hSw; have HKw := Lib.hid hKw
    clear hRw hSw hKw
    all_goals (go_wp2_with fail)
    refine bodyPost_end (results_none rfl _ _ _) rfl ?_
    exact ⟨⟨_, rfl⟩, HRw.out, HSw.out, HKw.out⟩
  · rw [e] at hC ha
    simp at ha
    rw [ha]
    have HC := Lib.hid hC
    have HR := Lib.hid hR
    have HS := Lib.hid hS
    clear hC ha e hR hS hR0
    go_enter Tryz.func111, Tryz.ntmps111
    go_upto_region 1 with fail
    (refine wp_named fun wr1 hwr1 => ?_; go_region_held3 (fun w' => (∀ b o, b < wr1.heap.size → w'.cell? ⟨b, o, none⟩ = wr1.cell? ⟨b, o, none⟩) ∧ (∀ b o, b < wr1.heap.size → w'.frozen? ⟨b, o, none⟩ = wr1.frozen? ⟨b, o, none⟩) ∧ (∀ k, k < wr1.heap.size → k < w'.heap.size) ∧ Below wr1.heap.size wr1 w') ((subst hwr1; (repeat (with_reducible (refine since_put ?_ ?_ _); rotate_left; focus (first | (simp; done) | (simp; omega) | omega))); first | with_reducible assumption | (refine since_step (by with_reducible assumption) ?_; first | with_reducible assumption | ((repeat (first | with_reducible (exact Since.refl _) | with_reducible assumption | with_reducible (refine Since.drew ?_) | with_reducible (refine Since.drewN ?_ _) | with_reducible (refine Since.alloc ?_ _) | (with_reducible (refine Since.setCell ?_ ?_ _); rotate_left; focus (first | (simp; done) | (simp; omega) | omega)))); done)) | (refine since_step (Since.refl _) ?_; first | with_reducible assumption | ((repeat (first | with_reducible (exact Since.refl _) | with_reducible assumption | with_reducible (refine Since.drew ?_) | with_reducible (refine Since.drewN ?_ _) | with_reducible (refine Since.alloc ?_ _) | (with_reducible (refine Since.setCell ?_ ?_ _); rotate_left; focus (first | (simp; done) | (simp; omega) | omega)) | (with_reducible (refine Since.trans ?_ (by with_reducible assumption))))); done)))) ((go_at_call 113; (with_reducible refine (HC.out _).mono ?_); rintro e w1 ⟨rfl, hS1⟩; have hZ1 := hS1.below.size; (try simp at hZ1))); all_goals (rename_i hHeld; have hR1 : Since wr1 _ := hHeld; obtain ⟨hcR1, hfR1, hzR1, hbR1⟩ := hHeld; subst hwr1))
    have g4 := (hR1.1 b 4 (by simp; omega)).trans ((World.cell?_alloc_lt w _ ⟨b, 4, none⟩ cb).trans c4)
    have g5 := (hR1.1 b 5 (by simp; omega)).trans ((World.cell?_alloc_lt w _ ⟨b, 5, none⟩ cb).trans c5)
    have hRw := (HR.out.alloc (.cells #[.int .i64 n, .int .i64 d] 147)).since hR1
    have hSw := (HS.out.alloc (.cells #[.int .i64 n, .int .i64 d] 147)).trans hR1
    have hKw := ((KeepBut.refl b w).since ((Since.refl w).alloc (.cells #[.int .i64 n, .int .i64 d] 147))).since hR1
    have HRw := Lib.hid hRw; have HSw := Lib.hid hSw; have HKw := Lib.hid hKw
    clear hRw hSw hKw
    all_goals (go_wp2_with fail)
    all_goals refine bodyPost_end (results_none rfl _ _ _) rfl ?_
    all_goals first
      | (rw [show (s.lo || o) = true by simp_all]; exact ⟨⟨_, rfl⟩, st_lo HRw.out true, HSw.out.setCell hb _, HKw.out.set _ _⟩)
      | (rw [show (s.lo || o) = o by simp_all]; exact ⟨⟨_, rfl⟩, st_lo HRw.out o, HSw.out.setCell hb _, HKw.out.set _ _⟩)
  · rw [e] at hC ha
    simp at ha
    rw [ha]
    have HC := Lib.hid hC
    have HR := Lib.hid hR
    have HS := Lib.hid hS
    clear hC ha e hR hS hR0
    go_enter Tryz.func111, Tryz.ntmps111
    go_upto_region 1 with fail
    (refine wp_named fun wr1 hwr1 => ?_; go_region_held3 (fun w' => (∀ b o, b < wr1.heap.size → w'.cell? ⟨b, o, none⟩ = wr1.cell? ⟨b, o, none⟩) ∧ (∀ b o, b < wr1.heap.size → w'.frozen? ⟨b, o, none⟩ = wr1.frozen? ⟨b, o, none⟩) ∧ (∀ k, k < wr1.heap.size → k < w'.heap.size) ∧ Below wr1.heap.size wr1 w') ((subst hwr1; (repeat (with_reducible (refine since_put ?_ ?_ _); rotate_left; focus (first | (simp; done) | (simp; omega) | omega))); first | with_reducible assumption | (refine since_step (by with_reducible assumption) ?_; first | with_reducible assumption | ((repeat (first | with_reducible (exact Since.refl _) | with_reducible assumption | with_reducible (refine Since.drew ?_) | with_reducible (refine Since.drewN ?_ _) | with_reducible (refine Since.alloc ?_ _) | (with_reducible (refine Since.setCell ?_ ?_ _); rotate_left; focus (first | (simp; done) | (simp; omega) | omega)))); done)) | (refine since_step (Since.refl _) ?_; first | with_reducible assumption | ((repeat (first | with_reducible (exact Since.refl _) | with_reducible assumption | with_reducible (refine Since.drew ?_) | with_reducible (refine Since.drewN ?_ _) | with_reducible (refine Since.alloc ?_ _) | (with_reducible (refine Since.setCell ?_ ?_ _); rotate_left; focus (first | (simp; done) | (simp; omega) | omega)) | (with_reducible (refine Since.trans ?_ (by with_reducible assumption))))); done)))) ((go_at_call 113; (with_reducible refine (HC.out _).mono ?_); rintro e w1 ⟨rfl, hS1⟩; have hZ1 := hS1.below.size; (try simp at hZ1))); all_goals (rename_i hHeld; have hR1 : Since wr1 _ := hHeld; obtain ⟨hcR1, hfR1, hzR1, hbR1⟩ := hHeld; subst hwr1))
    have g4 := (hR1.1 b 4 (by simp; omega)).trans ((World.cell?_alloc_lt w _ ⟨b, 4, none⟩ cb).trans c4)
    have g5 := (hR1.1 b 5 (by simp; omega)).trans ((World.cell?_alloc_lt w _ ⟨b, 5, none⟩ cb).trans c5)
    have hRw := (HR.out.alloc (.cells #[.int .i64 n, .int .i64 d] 147)).since hR1
    have hSw := (HS.out.alloc (.cells #[.int .i64 n, .int .i64 d] 147)).trans hR1
    have hKw := ((KeepBut.refl b w).since ((Since.refl w).alloc (.cells #[.int .i64 n, .int .i64 d] 147))).since hR1
    have HRw := Lib.hid hRw; have HSw := Lib.hid hSw; have HKw := Lib.hid hKw
    clear hRw hSw hKw
    all_goals (go_wp2_with fail)
    refine bodyPost_end (results_none rfl _ _ _) rfl ?_
    exact ⟨⟨_, rfl⟩, st_low HRw.out n d o, ((HSw.out.setCell hb _).setCell hb _).setCell hb _, ((HKw.out.set _ _).set _ _).set _ _⟩
set_option maxRecDepth 100000 in
set_option maxHeartbeats 8000000 in
theorem px_before (w0 : World) (b : Nat) (s : Stc) (n d : Int) (o : Bool) (hn : In64 (n * s.hd)) (hd : In64 (s.hn * d)) (w : World) (hb : w0.heap.size ≤ b) (hS : Since w0 w) (hR : Row w b 6 (Stf s)) :
    Calls Tryz.prog 112 #[.pointer (some ⟨b, 0, none⟩), .agg #[.int .i64 n, .int .i64 d], .bool o] w (StPost w0 w b (befS s n d o)) := by
  have hC := fun w => px_compare n d s.hn s.hd hn hd w
  have ha : befS s n d o = if cmpF n d s.hn s.hd = -1 then ⟨s.ln, s.ld, n, d, s.lo, o⟩ else if cmpF n d s.hn s.hd = 0 then ⟨s.ln, s.ld, s.hn, s.hd, s.lo, s.ho || o⟩ else s := rfl
  have hcs := cmp_is (n * s.hd) (s.hn * d)
  change (cmpF n d s.hn s.hd = -1 ∧ _) ∨ (cmpF n d s.hn s.hd = 0 ∧ _) ∨ (cmpF n d s.hn s.hd = 1 ∧ _) at hcs
  obtain ⟨c0, c1, c2, c3, c4, c5, cb⟩ := stcells hR
  have hfr := hR.2.1
  have hR0 := hR
  clear hn hd
  rcases hcs with ⟨e, _⟩ | ⟨e, _⟩ | ⟨e, _⟩
  · rw [e] at hC ha
    simp at ha
    rw [ha]
    have HC := Lib.hid hC
    have HR := Lib.hid hR
    have HS := Lib.hid hS
    clear hC ha e hR hS hR0
    go_enter Tryz.func112, Tryz.ntmps112
    go_upto_region 1 with fail
    (refine wp_named fun wr1 hwr1 => ?_; go_region_held3 (fun w' => (∀ b o, b < wr1.heap.size → w'.cell? ⟨b, o, none⟩ = wr1.cell? ⟨b, o, none⟩) ∧ (∀ b o, b < wr1.heap.size → w'.frozen? ⟨b, o, none⟩ = wr1.frozen? ⟨b, o, none⟩) ∧ (∀ k, k < wr1.heap.size → k < w'.heap.size) ∧ Below wr1.heap.size wr1 w') ((subst hwr1; (repeat (with_reducible (refine since_put ?_ ?_ _); rotate_left; focus (first | (simp; done) | (simp; omega) | omega))); first | with_reducible assumption | (refine since_step (by with_reducible assumption) ?_; first | with_reducible assumption | ((repeat (first | with_reducible (exact Since.refl _) | with_reducible assumption | with_reducible (refine Since.drew ?_) | with_reducible (refine Since.drewN ?_ _) | with_reducible (refine Since.alloc ?_ _) | (with_reducible (refine Since.setCell ?_ ?_ _); rotate_left; focus (first | (simp; done) | (simp; omega) | omega)))); done)) | (refine since_step (Since.refl _) ?_; first | with_reducible assumption | ((repeat (first | with_reducible (exact Since.refl _) | with_reducible assumption | with_reducible (refine Since.drew ?_) | with_reducible (refine Since.drewN ?_ _) | with_reducible (refine Since.alloc ?_ _) | (with_reducible (refine Since.setCell ?_ ?_ _); rotate_left; focus (first | (simp; done) | (simp; omega) | omega)) | (with_reducible (refine Since.trans ?_ (by with_reducible assumption))))); done)))) ((go_at_call 113; (with_reducible refine (HC.out _).mono ?_); rintro e w1 ⟨rfl, hS1⟩; have hZ1 := hS1.below.size; (try simp at hZ1))); all_goals (rename_i hHeld; have hR1 : Since wr1 _ := hHeld; obtain ⟨hcR1, hfR1, hzR1, hbR1⟩ := hHeld; subst hwr1))
    have g4 := (hR1.1 b 4 (by simp; omega)).trans ((World.cell?_alloc_lt w _ ⟨b, 4, none⟩ cb).trans c4)
    have g5 := (hR1.1 b 5 (by simp; omega)).trans ((World.cell?_alloc_lt w _ ⟨b, 5, none⟩ cb).trans c5)
    have hRw := (HR.out.alloc (.cells #[.int .i64 n, .int .i64 d] 147)).since hR1
    have hSw := (HS.out.alloc (.cells #[.int .i64 n, .int .i64 d] 147)).trans hR1
    have hKw := ((KeepBut.refl b w).since ((Since.refl w).alloc (.cells #[.int .i64 n, .int .i64 d] 147))).since hR1
    have HRw := Lib.hid hRw; have HSw := Lib.hid hSw; have HKw := Lib.hid hKw
    clear hRw hSw hKw
    all_goals (go_wp2_with fail)
    refine bodyPost_end (results_none rfl _ _ _) rfl ?_
    exact ⟨⟨_, rfl⟩, st_high HRw.out n d o, ((HSw.out.setCell hb _).setCell hb _).setCell hb _, ((HKw.out.set _ _).set _ _).set _ _⟩
  · rw [e] at hC ha
    simp at ha
    rw [ha]
    have HC := Lib.hid hC
    have HR := Lib.hid hR
    have HS := Lib.hid hS
    clear hC ha e hR hS hR0
    go_enter Tryz.func112, Tryz.ntmps112
    go_upto_region 1 with fail
    (refine wp_named fun wr1 hwr1 => ?_; go_region_held3 (fun w' => (∀ b o, b < wr1.heap.size → w'.cell? ⟨b, o, none⟩ = wr1.cell? ⟨b, o, none⟩) ∧ (∀ b o, b < wr1.heap.size → w'.frozen? ⟨b, o, none⟩ = wr1.frozen? ⟨b, o, none⟩) ∧ (∀ k, k < wr1.heap.size → k < w'.heap.size) ∧ Below wr1.heap.size wr1 w') ((subst hwr1; (repeat (with_reducible (refine since_put ?_ ?_ _); rotate_left; focus (first | (simp; done) | (simp; omega) | omega))); first | with_reducible assumption | (refine since_step (by with_reducible assumption) ?_; first | with_reducible assumption | ((repeat (first | with_reducible (exact Since.refl _) | with_reducible assumption | with_reducible (refine Since.drew ?_) | with_reducible (refine Since.drewN ?_ _) | with_reducible (refine Since.alloc ?_ _) | (with_reducible (refine Since.setCell ?_ ?_ _); rotate_left; focus (first | (simp; done) | (simp; omega) | omega)))); done)) | (refine since_step (Since.refl _) ?_; first | with_reducible assumption | ((repeat (first | with_reducible (exact Since.refl _) | with_reducible assumption | with_reducible (refine Since.drew ?_) | with_reducible (refine Since.drewN ?_ _) | with_reducible (refine Since.alloc ?_ _) | (with_reducible (refine Since.setCell ?_ ?_ _); rotate_left; focus (first | (simp; done) | (simp; omega) | omega)) | (with_reducible (refine Since.trans ?_ (by with_reducible assumption))))); done)))) ((go_at_call 113; (with_reducible refine (HC.out _).mono ?_); rintro e w1 ⟨rfl, hS1⟩; have hZ1 := hS1.below.size; (try simp at hZ1))); all_goals (rename_i hHeld; have hR1 : Since wr1 _ := hHeld; obtain ⟨hcR1, hfR1, hzR1, hbR1⟩ := hHeld; subst hwr1))
    have g4 := (hR1.1 b 4 (by simp; omega)).trans ((World.cell?_alloc_lt w _ ⟨b, 4, none⟩ cb).trans c4)
    have g5 := (hR1.1 b 5 (by simp; omega)).trans ((World.cell?_alloc_lt w _ ⟨b, 5, none⟩ cb).trans c5)
    have hRw := (HR.out.alloc (.cells #[.int .i64 n, .int .i64 d] 147)).since hR1
    have hSw := (HS.out.alloc (.cells #[.int .i64 n, .int .i64 d] 147)).trans hR1
    have hKw := ((KeepBut.refl b w).since ((Since.refl w).alloc (.cells #[.int .i64 n, .int .i64 d] 147))).since hR1
    have HRw := Lib.hid hRw; have HSw := Lib.hid hSw; have HKw := Lib.hid hKw
    clear hRw hSw hKw
    all_goals (go_wp2_with fail)
    all_goals refine bodyPost_end (results_none rfl _ _ _) rfl ?_
    all_goals first
      | (rw [show (s.ho || o) = true by simp_all]; exact ⟨⟨_, rfl⟩, st_ho HRw.out true, HSw.out.setCell hb _, HKw.out.set _ _⟩)
      | (rw [show (s.ho || o) = o by simp_all]; exact ⟨⟨_, rfl⟩, st_ho HRw.out o, HSw.out.setCell hb _, HKw.out.set _ _⟩)
  · rw [e] at hC ha
    simp at ha
    rw [ha]
    have HC := Lib.hid hC
    have HR := Lib.hid hR
    have HS := Lib.hid hS
    clear hC ha e hR hS hR0
    go_enter Tryz.func112, Tryz.ntmps112
    go_upto_region 1 with fail
    (refine wp_named fun wr1 hwr1 => ?_; go_region_held3 (fun w' => (∀ b o, b < wr1.heap.size → w'.cell? ⟨b, o, none⟩ = wr1.cell? ⟨b, o, none⟩) ∧ (∀ b o, b < wr1.heap.size → w'.frozen? ⟨b, o, none⟩ = wr1.frozen? ⟨b, o, none⟩) ∧ (∀ k, k < wr1.heap.size → k < w'.heap.size) ∧ Below wr1.heap.size wr1 w') ((subst hwr1; (repeat (with_reducible (refine since_put ?_ ?_ _); rotate_left; focus (first | (simp; done) | (simp; omega) | omega))); first | with_reducible assumption | (refine since_step (by with_reducible assumption) ?_; first | with_reducible assumption | ((repeat (first | with_reducible (exact Since.refl _) | with_reducible assumption | with_reducible (refine Since.drew ?_) | with_reducible (refine Since.drewN ?_ _) | with_reducible (refine Since.alloc ?_ _) | (with_reducible (refine Since.setCell ?_ ?_ _); rotate_left; focus (first | (simp; done) | (simp; omega) | omega)))); done)) | (refine since_step (Since.refl _) ?_; first | with_reducible assumption | ((repeat (first | with_reducible (exact Since.refl _) | with_reducible assumption | with_reducible (refine Since.drew ?_) | with_reducible (refine Since.drewN ?_ _) | with_reducible (refine Since.alloc ?_ _) | (with_reducible (refine Since.setCell ?_ ?_ _); rotate_left; focus (first | (simp; done) | (simp; omega) | omega)) | (with_reducible (refine Since.trans ?_ (by with_reducible assumption))))); done)))) ((go_at_call 113; (with_reducible refine (HC.out _).mono ?_); rintro e w1 ⟨rfl, hS1⟩; have hZ1 := hS1.below.size; (try simp at hZ1))); all_goals (rename_i hHeld; have hR1 : Since wr1 _ := hHeld; obtain ⟨hcR1, hfR1, hzR1, hbR1⟩ := hHeld; subst hwr1))
    have g4 := (hR1.1 b 4 (by simp; omega)).trans ((World.cell?_alloc_lt w _ ⟨b, 4, none⟩ cb).trans c4)
    have g5 := (hR1.1 b 5 (by simp; omega)).trans ((World.cell?_alloc_lt w _ ⟨b, 5, none⟩ cb).trans c5)
    have hRw := (HR.out.alloc (.cells #[.int .i64 n, .int .i64 d] 147)).since hR1
    have hSw := (HS.out.alloc (.cells #[.int .i64 n, .int .i64 d] 147)).trans hR1
    have hKw := ((KeepBut.refl b w).since ((Since.refl w).alloc (.cells #[.int .i64 n, .int .i64 d] 147))).since hR1
    have HRw := Lib.hid hRw; have HSw := Lib.hid hSw; have HKw := Lib.hid hKw
    clear hRw hSw hKw
    all_goals (go_wp2_with fail)
    refine bodyPost_end (results_none rfl _ _ _) rfl ?_
    exact ⟨⟨_, rfl⟩, HRw.out, HSw.out, HKw.out⟩
end Go.Proofs.YtcfghkphkmoikaaGreat

/-
  Layer 16: 'cut', 'empty', 'Hits', walked.
-/
namespace Go.Proofs.YtcfghkphkmoikaaGreat
set_option maxRecDepth 100000
open Go.RowKit
set_option linter.unusedVariables false

def Stc.ok (s : Stc) : Prop := (-8400000 ≤ s.ln ∧ s.ln ≤ 8400000) ∧ (1 ≤ s.ld ∧ s.ld ≤ 8400000) ∧ (-8400000 ≤ s.hn ∧ s.hn ≤ 8400000) ∧ (1 ≤ s.hd ∧ s.hd ≤ 8400000)
def FrOk (n d : Int) : Prop := (-8400000 ≤ n ∧ n ≤ 8400000) ∧ (1 ≤ d ∧ d ≤ 8400000)
theorem fr_mul {n d : Int} (hn : -8400000 ≤ n ∧ n ≤ 8400000) (hd : 1 ≤ d ∧ d ≤ 8400000) : In64 (n * d) := by
  have h1 : n * d ≤ 8400000 * d := Int.mul_le_mul_of_nonneg_right hn.2 (by omega)
  have h2 : -8400000 * d ≤ n * d := Int.mul_le_mul_of_nonneg_right hn.1 (by omega)
  unfold In64
  omega
theorem aft_ok {s : Stc} (h : s.ok) {n d : Int} {o : Bool} (k : FrOk n d) : (aftS s n d o).ok := by
  unfold aftS Stc.ok FrOk at *
  split
  · exact ⟨k.1, k.2, h.2.2⟩
  · split <;> exact h
theorem bef_ok {s : Stc} (h : s.ok) {n d : Int} {o : Bool} (k : FrOk n d) : (befS s n d o).ok := by
  unfold befS Stc.ok FrOk at *
  split
  · exact ⟨h.1, h.2.1, k.1, k.2⟩
  · split <;> exact h
theorem cut_ok {s : Stc} (h : s.ok) {a b row : Int} (ha : -4194304 ≤ a ∧ a ≤ 4194304) (hb : -4194304 ≤ b ∧ b ≤ 4194304) (hr : -65536 ≤ row ∧ row ≤ 65536) : (cutS s a b row).ok := by
  unfold cutS
  split
  · exact bef_ok (aft_ok h (by unfold FrOk; omega)) (by unfold FrOk; omega)
  · split
    · exact bef_ok (aft_ok h (by unfold FrOk; omega)) (by unfold FrOk; omega)
    · split
      · unfold Stc.ok at *; simp only; omega
      · exact h
set_option maxRecDepth 100000 in
set_option maxHeartbeats 8000000 in
theorem px_cut (w0 : World) (b : Nat) (s : Stc) (a c row : Int) (hs : s.ok) (ha : -4194304 ≤ a ∧ a ≤ 4194304) (hc : -4194304 ≤ c ∧ c ≤ 4194304) (hr : -65536 ≤ row ∧ row ≤ 65536) (w : World) (hb : w0.heap.size ≤ b) (hS : Since w0 w) (hR : Row w b 6 (Stf s)) :
    Calls Tryz.prog 87 #[.pointer (some ⟨b, 0, none⟩), .int .i64 a, .int .i64 c, .int .i64 row] w (StPost w0 w b (cutS s a c row)) := by
  have u1 : IntKind.i64.wrap (64 * row) = 64 * row := IntWalk.i64_in _ (by omega)
  have u2 : IntKind.i64.wrap (64 * row - 32) = 64 * row - 32 := IntWalk.i64_in _ (by omega)
  have u3 : IntKind.i64.wrap (64 * row + 32) = 64 * row + 32 := IntWalk.i64_in _ (by omega)
  by_cases h1 : a < c
  · have e : cutS s a c row = befS (aftS s (64 * row - 32 - a) (c - a) false) (64 * row + 32 - a) (c - a) true := by unfold cutS; rw [if_pos h1]
    rw [e]
    have k1 : FrOk (64 * row - 32 - a) (c - a) := by unfold FrOk; omega
    have k2 : FrOk (64 * row + 32 - a) (c - a) := by unfold FrOk; omega
    have u4 : IntKind.i64.wrap (64 * row - 32 - a) = 64 * row - 32 - a := IntWalk.i64_in _ (by omega)
    have u5 : IntKind.i64.wrap (64 * row + 32 - a) = 64 * row + 32 - a := IntWalk.i64_in _ (by omega)
    have u6 : IntKind.i64.wrap (c - a) = c - a := IntWalk.i64_in _ (by omega)
    have hs2 := aft_ok (o := false) hs k1
    have hA := fun w h1 h2 => px_after w0 b s (64 * row - 32 - a) (c - a) false (fr_mul k1.1 hs.2.1) (fr_mul hs.1 k1.2) w hb h1 h2
    have hB := fun w h1 h2 => px_before w0 b (aftS s (64 * row - 32 - a) (c - a) false) (64 * row + 32 - a) (c - a) true (fr_mul k2.1 hs2.2.2.2) (fr_mul hs2.2.2.1 k2.2) w hb h1 h2
    generalize befS (aftS s (64 * row - 32 - a) (c - a) false) (64 * row + 32 - a) (c - a) true = S2 at *
    generalize aftS s (64 * row - 32 - a) (c - a) false = S1 at *
    have d1 : decide (a < c) = true := by simp [h1]
    unfold StPost at *
    have HA := Lib.hid hA; have HB := Lib.hid hB; have HS := Lib.hid hS; have HR := Lib.hid hR
    clear hA hB k1 k2 hs hs2 e hS hR h1 ha hc hr
    go_enter Tryz.func87, Tryz.ntmps87
    go_wp2_with (first | (go_at_call 111; (with_reducible refine (HA.out _ HS.out HR.out).mono ?_); rintro e w1 ⟨⟨v1, rfl⟩, hR1, hS1, hK1⟩) | (go_at_call 112; (with_reducible refine (HB.out _ hS1 hR1).mono ?_); rintro e w2 ⟨⟨v2, rfl⟩, hR2, hS2, hK2⟩))
    refine bodyPost_end (results_none rfl _ _ _) rfl ?_
    exact ⟨⟨_, rfl⟩, hR2, hS2, hK1.trans hK2⟩
  · by_cases h2 : c < a
    · have e : cutS s a c row = befS (aftS s (a - (64 * row + 32)) (a - c) true) (a - (64 * row - 32)) (a - c) false := by unfold cutS; rw [if_neg h1, if_pos h2]
      rw [e]
      have k1 : FrOk (a - (64 * row + 32)) (a - c) := by unfold FrOk; omega
      have k2 : FrOk (a - (64 * row - 32)) (a - c) := by unfold FrOk; omega
      have u4 : IntKind.i64.wrap (a - (64 * row + 32)) = a - (64 * row + 32) := IntWalk.i64_in _ (by omega)
      have u5 : IntKind.i64.wrap (a - (64 * row - 32)) = a - (64 * row - 32) := IntWalk.i64_in _ (by omega)
      have u6 : IntKind.i64.wrap (a - c) = a - c := IntWalk.i64_in _ (by omega)
      have hs2 := aft_ok (o := true) hs k1
      have hA := fun w h1 h2 => px_after w0 b s (a - (64 * row + 32)) (a - c) true (fr_mul k1.1 hs.2.1) (fr_mul hs.1 k1.2) w hb h1 h2
      have hB := fun w h1 h2 => px_before w0 b (aftS s (a - (64 * row + 32)) (a - c) true) (a - (64 * row - 32)) (a - c) false (fr_mul k2.1 hs2.2.2.2) (fr_mul hs2.2.2.1 k2.2) w hb h1 h2
      generalize befS (aftS s (a - (64 * row + 32)) (a - c) true) (a - (64 * row - 32)) (a - c) false = S2 at *
      generalize aftS s (a - (64 * row + 32)) (a - c) true = S1 at *
      have d1 : decide (a < c) = false := by simp; omega
      have d2 : decide (c < a) = true := by simp [h2]
      unfold StPost at *
      have HA := Lib.hid hA; have HB := Lib.hid hB; have HS := Lib.hid hS; have HR := Lib.hid hR
      clear hA hB k1 k2 hs hs2 e hS hR h1 h2 ha hc hr
      go_enter Tryz.func87, Tryz.ntmps87
      go_wp2_with (first | (go_at_call 111; (with_reducible refine (HA.out _ HS.out HR.out).mono ?_); rintro e w1 ⟨⟨v1, rfl⟩, hR1, hS1, hK1⟩) | (go_at_call 112; (with_reducible refine (HB.out _ hS1 hR1).mono ?_); rintro e w2 ⟨⟨v2, rfl⟩, hR2, hS2, hK2⟩))
      refine bodyPost_end (results_none rfl _ _ _) rfl ?_
      exact ⟨⟨_, rfl⟩, hR2, hS2, hK1.trans hK2⟩
    · have hac : a = c := by omega
      subst hac
      have d1 : decide (a < a) = false := by simp
      by_cases h3 : a < 64 * row - 32
      · have e : cutS s a a row = ⟨s.ln, s.ld, -1, 1, s.lo, s.ho⟩ := by unfold cutS; rw [if_neg h1, if_neg h2, if_pos (by omega)]
        rw [e]
        have d3 : decide (a < 64 * row - 32) = true := by simp [h3]
        obtain ⟨c0, c1, c2, c3, c4, c5, c6⟩ := stcells hR
        have hfr := hR.2.1
        have HS := Lib.hid hS; have HR := Lib.hid hR
        clear hS hR h1 h2 ha hc hr h3 e hs
        go_enter Tryz.func87, Tryz.ntmps87
        go_wp2_with fail
        refine bodyPost_end (results_none rfl _ _ _) rfl ?_
        exact ⟨⟨_, rfl⟩, st_none HR.out, (HS.out.setCell hb _).setCell hb _, ((KeepBut.refl b w).set _ _).set _ _⟩
      · by_cases h4 : 64 * row + 32 ≤ a
        · have e : cutS s a a row = ⟨s.ln, s.ld, -1, 1, s.lo, s.ho⟩ := by unfold cutS; rw [if_neg h1, if_neg h2, if_pos (by omega)]
          rw [e]
          have d3 : decide (a < 64 * row - 32) = false := by simp; omega
          have d4 : decide (64 * row + 32 ≤ a) = true := by simp [h4]
          obtain ⟨c0, c1, c2, c3, c4, c5, c6⟩ := stcells hR
          have hfr := hR.2.1
          have HS := Lib.hid hS; have HR := Lib.hid hR
          clear hS hR h1 h2 ha hc hr h3 h4 e hs
          go_enter Tryz.func87, Tryz.ntmps87
          go_wp2_with fail
          refine bodyPost_end (results_none rfl _ _ _) rfl ?_
          exact ⟨⟨_, rfl⟩, st_none HR.out, (HS.out.setCell hb _).setCell hb _, ((KeepBut.refl b w).set _ _).set _ _⟩
        · have e : cutS s a a row = s := by unfold cutS; rw [if_neg h1, if_neg h2, if_neg (by omega)]
          rw [e]
          have d3 : decide (a < 64 * row - 32) = false := by simp; omega
          have d4 : decide (64 * row + 32 ≤ a) = false := by simp; omega
          have HS := Lib.hid hS; have HR := Lib.hid hR
          clear hS hR h1 h2 ha hc hr h3 h4 e hs
          go_enter Tryz.func87, Tryz.ntmps87
          go_wp2_with fail
          refine bodyPost_end (results_none rfl _ _ _) rfl ?_
          exact ⟨⟨_, rfl⟩, HR.out, HS.out, KeepBut.refl b w⟩
set_option maxRecDepth 100000 in
set_option maxHeartbeats 8000000 in
theorem px_empty (b : Nat) (s : Stc) (hs : s.ok) (w : World) (hR : Row w b 6 (Stf s)) :
    Calls Tryz.prog 88 #[.pointer (some ⟨b, 0, none⟩)] w fun e w' => e = .returned (.bool (empS s)) ∧ Since w w' := by
  have hC := fun w => px_compare s.ln s.ld s.hn s.hd (fr_mul hs.1 hs.2.2.2) (fr_mul hs.2.2.1 hs.2.1) w
  have he : empS s = (decide (0 < cmpF s.ln s.ld s.hn s.hd) || (decide (cmpF s.ln s.ld s.hn s.hd = 0) && (s.lo || s.ho))) := rfl
  have hcs := cmp_is (s.ln * s.hd) (s.hn * s.ld)
  change (cmpF s.ln s.ld s.hn s.hd = -1 ∧ _) ∨ (cmpF s.ln s.ld s.hn s.hd = 0 ∧ _) ∨ (cmpF s.ln s.ld s.hn s.hd = 1 ∧ _) at hcs
  obtain ⟨c0, c1, c2, c3, c4, c5, cb⟩ := stcells hR
  obtain ⟨ln, ld, hn', hd', lo, ho⟩ := s
  simp only at *
  have HR := Lib.hid hR
  clear hR hs
  rcases hcs with ⟨e, _⟩ | ⟨e, _⟩ | ⟨e, _⟩ <;> cases lo
  all_goals
    rw [e] at hC he
    rw [he]
    have HC := Lib.hid hC
    clear hC he e
    go_enter Tryz.func88, Tryz.ntmps88
    go_upto_region 1 with fail
    (refine wp_named fun wr1 hwr1 => ?_; go_region_held3 (fun w' => (∀ b o, b < wr1.heap.size → w'.cell? ⟨b, o, none⟩ = wr1.cell? ⟨b, o, none⟩) ∧ (∀ b o, b < wr1.heap.size → w'.frozen? ⟨b, o, none⟩ = wr1.frozen? ⟨b, o, none⟩) ∧ (∀ k, k < wr1.heap.size → k < w'.heap.size) ∧ Below wr1.heap.size wr1 w') ((subst hwr1; (repeat (with_reducible (refine since_put ?_ ?_ _); rotate_left; focus (first | (simp; done) | (simp; omega) | omega))); first | with_reducible assumption | (refine since_step (by with_reducible assumption) ?_; first | with_reducible assumption | ((repeat (first | with_reducible (exact Since.refl _) | with_reducible assumption | with_reducible (refine Since.drew ?_) | with_reducible (refine Since.drewN ?_ _) | with_reducible (refine Since.alloc ?_ _) | (with_reducible (refine Since.setCell ?_ ?_ _); rotate_left; focus (first | (simp; done) | (simp; omega) | omega)))); done)) | (refine since_step (Since.refl _) ?_; first | with_reducible assumption | ((repeat (first | with_reducible (exact Since.refl _) | with_reducible assumption | with_reducible (refine Since.drew ?_) | with_reducible (refine Since.drewN ?_ _) | with_reducible (refine Since.alloc ?_ _) | (with_reducible (refine Since.setCell ?_ ?_ _); rotate_left; focus (first | (simp; done) | (simp; omega) | omega)) | (with_reducible (refine Since.trans ?_ (by with_reducible assumption))))); done)))) ((go_at_call 113; (with_reducible refine (HC.out _).mono ?_); rintro e w1 ⟨rfl, hS1⟩; have hZ1 := hS1.below.size; (try simp at hZ1))); all_goals (rename_i hHeld; have hR1 : Since wr1 _ := hHeld; obtain ⟨hcR1, hfR1, hzR1, hbR1⟩ := hHeld; subst hwr1))
    have g0 := (hR1.1 b 0 cb).trans c0
    have g4 := (hR1.1 b 4 cb).trans c4
    have g5 := (hR1.1 b 5 cb).trans c5
    have g6 := hR1.2.2.1 b cb
    go_wp2_with fail
    go_ret
    exact ⟨by first | rfl | simp, by (repeat (first | with_reducible (exact Since.refl _) | with_reducible assumption | with_reducible (refine Since.drew ?_) | with_reducible (refine Since.drewN ?_ _) | with_reducible (refine Since.alloc ?_ _) | (with_reducible (refine Since.setCell ?_ ?_ _); rotate_left; focus (first | (simp; done) | (simp; omega) | omega)) | (with_reducible (refine Since.trans ?_ (by with_reducible assumption)))))⟩
end Go.Proofs.YtcfghkphkmoikaaGreat

/-
  Layer 16: 'Hits', walked.
-/
namespace Go.Proofs.YtcfghkphkmoikaaGreat
set_option maxRecDepth 100000
open Go.RowKit
set_option linter.unusedVariables false

theorem prow2x (w : World) (b : Nat) (hb : b = w.heap.size) (t : TypeId) (x y : Int) : Row (w.alloc (.cells #[.int .i64 x, .int .i64 y] t)) b 2 (Pf x y) := prow w b hb t x y
def pixG (x y : Int) : Bool := decide (-65536 ≤ x ∧ x ≤ 65536 ∧ -65536 ≤ y ∧ y ≤ 65536)
theorem pixG_iff {x y : Int} : pixG x y = true ↔ (-65536 ≤ x ∧ x ≤ 65536 ∧ -65536 ≤ y ∧ y ≤ 65536) := by unfold pixG; simp
theorem pix_lo {x y : Int} : pixG x y = (decide (hi2 x y ≤ 65536) && decide (-65536 ≤ lo2 x y)) := by
  unfold pixG hi2 lo2
  rw [Bool.eq_iff_iff]
  simp only [Bool.and_eq_true, decide_eq_true_eq]
  split <;> split <;> omega
theorem strow0 (w : World) (b : Nat) (hb : b = w.heap.size) (t : TypeId) : Row (w.alloc (.cells #[.int .i64 0, .int .i64 1, .int .i64 1, .int .i64 1, .bool false, .bool false] t)) b 6 (Stf st0) := strow w b hb t st0
theorem st0_ok : st0.ok := by unfold Stc.ok st0; simp
/-- Whether a line goes through a pixel, of any line and any pixel. -/
def hitB (l : Ln) (x y : Int) : Bool := goodB l.ax l.ay && goodB l.bx l.bz && pixG x y && hitS l.ax l.ay l.bx l.bz x y
set_option maxRecDepth 100000 in
set_option maxHeartbeats 8000000 in
theorem px_hits_no (l : Ln) (hl : l.wf) (x y : Int) (h : (goodB l.ax l.ay && goodB l.bx l.bz && pixG x y) = false) (w : World) :
    Calls Tryz.prog 56 #[l.v, Pt x y] w fun e w' => e = .returned (.bool false) ∧ Since w w' := by
  have hg := fun w b hb t => good2 w b hb l.ax l.ay l.bx l.bz t hl.1 hl.2
  have hN := fun w b hb t => ln_new w b hb l t
  have hmin := min2_run
  have hmax := max2_run
  unfold Ln.v Pt at *
  have HN := Lib.hid hN
  cases hG : (goodB l.ax l.ay && goodB l.bx l.bz)
  · rw [hG] at hg
    have HG := Lib.hid hg
    clear hg hN h hG hl
    go_enter Tryz.func56, Tryz.ntmps56
    go_wp2_with (go_at_call 61; (with_reducible refine (HG.out _ _ (by first | rfl | simp) _).mono ?_); rintro e w1 ⟨rfl, hS1⟩)
    go_ret
    exact ⟨by first | rfl | simp, by (repeat (first | with_reducible (exact Since.refl _) | with_reducible assumption | with_reducible (refine Since.drew ?_) | with_reducible (refine Since.drewN ?_ _) | with_reducible (refine Since.alloc ?_ _) | (with_reducible (refine Since.setCell ?_ ?_ _); rotate_left; focus (first | (simp; done) | (simp; omega) | omega)) | (with_reducible (refine Since.trans ?_ (by with_reducible assumption)))))⟩
  · rw [hG] at hg
    rw [hG, Bool.true_and, pix_lo] at h
    have HG := Lib.hid hg
    clear hg hN hG hl
    by_cases hA : hi2 x y ≤ 65536
    · by_cases hB : -65536 ≤ lo2 x y
      · simp [hA, hB] at h
      · have d1 : decide ((65536 : Int) < hi2 x y) = false := by simp; omega
        have d2 : decide (lo2 x y < (-65536 : Int)) = true := by simp; omega
        clear h hA hB
        go_enter Tryz.func56, Tryz.ntmps56
        go_wp2_with (go_at_call 61; (with_reducible refine (HG.out _ _ (by first | rfl | simp) _).mono ?_); rintro e w1 ⟨rfl, hS1⟩; have hP1 := ((prow2x _ (w.heap.size + 1) (by simp) _ x y).alloc _).since hS1; obtain ⟨c1, c2, c3⟩ := pcells hP1)
        go_ret
        exact ⟨by first | rfl | simp, by (repeat (first | with_reducible (exact Since.refl _) | with_reducible assumption | with_reducible (refine Since.drew ?_) | with_reducible (refine Since.drewN ?_ _) | with_reducible (refine Since.alloc ?_ _) | (with_reducible (refine Since.setCell ?_ ?_ _); rotate_left; focus (first | (simp; done) | (simp; omega) | omega)) | (with_reducible (refine Since.trans ?_ (by with_reducible assumption)))))⟩
    · have d1 : decide ((65536 : Int) < hi2 x y) = true := by simp; omega
      clear h hA
      go_enter Tryz.func56, Tryz.ntmps56
      go_wp2_with (go_at_call 61; (with_reducible refine (HG.out _ _ (by first | rfl | simp) _).mono ?_); rintro e w1 ⟨rfl, hS1⟩; have hP1 := ((prow2x _ (w.heap.size + 1) (by simp) _ x y).alloc _).since hS1; obtain ⟨c1, c2, c3⟩ := pcells hP1)
      go_ret
      exact ⟨by first | rfl | simp, by (repeat (first | with_reducible (exact Since.refl _) | with_reducible assumption | with_reducible (refine Since.drew ?_) | with_reducible (refine Since.drewN ?_ _) | with_reducible (refine Since.alloc ?_ _) | (with_reducible (refine Since.setCell ?_ ?_ _); rotate_left; focus (first | (simp; done) | (simp; omega) | omega)) | (with_reducible (refine Since.trans ?_ (by with_reducible assumption)))))⟩
set_option maxRecDepth 100000 in
set_option maxHeartbeats 8000000 in
theorem px_hits_ok (l : Ln) (hl : l.wf) (x y : Int) (h : (goodB l.ax l.ay && goodB l.bx l.bz && pixG x y) = true) (w : World) :
    Calls Tryz.prog 56 #[l.v, Pt x y] w fun e w' => e = .returned (.bool (hitS l.ax l.ay l.bx l.bz x y)) ∧ Since w w' := by
  have hg := fun w b hb t => good2 w b hb l.ax l.ay l.bx l.bz t hl.1 hl.2
  have hN := fun w b hb t => ln_new w b hb l t
  have hmin := min2_run
  have hmax := max2_run
  obtain ⟨hG, hP⟩ := Bool.and_eq_true_iff.1 h
  rw [hG] at hg
  obtain ⟨g1, g2⟩ := Bool.and_eq_true_iff.1 hG
  have i1 := goodB_iff.1 g1
  have i2 := goodB_iff.1 g2
  have i3 := pixG_iff.1 hP
  rw [pix_lo] at hP
  have hA : hi2 x y ≤ 65536 ∧ -65536 ≤ lo2 x y := by simpa using hP
  have d1 : decide ((65536 : Int) < hi2 x y) = false := by simp; omega
  have d2 : decide (lo2 x y < (-65536 : Int)) = false := by simp; omega
  have k1 := cut_ok (a := l.ax) (b := l.bx) (row := x) st0_ok (by omega) (by omega) (by omega)
  have k2 := cut_ok (a := l.ay) (b := l.bz) (row := y) k1 (by omega) (by omega) (by omega)
  have hC1 := fun w0 b w hb hS hR => px_cut w0 b st0 l.ax l.bx x st0_ok (by omega) (by omega) (by omega) w hb hS hR
  have hC2 := fun w0 b w hb hS hR => px_cut w0 b (cutS st0 l.ax l.bx x) l.ay l.bz y k1 (by omega) (by omega) (by omega) w hb hS hR
  have hE := fun b w hR => px_empty b (cutS (cutS st0 l.ax l.bx x) l.ay l.bz y) k2 w hR
  have hH : hitS l.ax l.ay l.bx l.bz x y = !empS (cutS (cutS st0 l.ax l.bx x) l.ay l.bz y) := rfl
  rw [hH]
  generalize empS (cutS (cutS st0 l.ax l.bx x) l.ay l.bz y) = E at *
  generalize cutS (cutS st0 l.ax l.bx x) l.ay l.bz y = S2 at *
  generalize cutS st0 l.ax l.bx x = S1 at *
  unfold StPost at hC1 hC2
  unfold Ln.v Pt at *
  have HN := Lib.hid hN; have HG := Lib.hid hg; have HC1 := Lib.hid hC1; have HC2 := Lib.hid hC2; have HE := Lib.hid hE
  clear hN hg hC1 hC2 hE k1 k2 i1 i2 i3 g1 g2 hG hP hA h hl hH
  have tok1 := True.intro
  go_enter Tryz.func56, Tryz.ntmps56
  go_wp2_with (first | (go_at_call 61; (with_reducible refine (HG.out _ _ (by first | rfl | simp) _).mono ?_); rintro e w1 ⟨rfl, hS1⟩; have hP1 := ((prow2x _ (w.heap.size + 1) (by simp) _ x y).alloc _).since hS1; have hL1 := (((HN.out w _ rfl _).alloc _).alloc _).since hS1; have hT1 : Since w w1 := (by (repeat (first | with_reducible (exact Since.refl _) | with_reducible assumption | with_reducible (refine Since.drew ?_) | with_reducible (refine Since.drewN ?_ _) | with_reducible (refine Since.alloc ?_ _) | (with_reducible (refine Since.setCell ?_ ?_ _); rotate_left; focus (first | (simp; done) | (simp; omega) | omega)) | (with_reducible (refine Since.trans ?_ (by with_reducible assumption)))))); clear hS1; obtain ⟨c1, c2, c3⟩ := pcells hP1; obtain ⟨l1, l2, l3, l4, l5⟩ := id hL1) | (go_at_call 87; have _t := tok1; (with_reducible refine (HC1.out w1 w1.heap.size _ (Nat.le_refl _) ((Since.refl _).alloc _) (strow0 w1 _ rfl _)).mono ?_); rintro e w2 ⟨⟨v2, rfl⟩, hR2, hS2, hK2⟩; clear tok1; have hP2 := hP1.since hS2; have hL2 := hL1.since hS2; clear c1 c2 c3 l1 l2 l3 l4 l5; obtain ⟨c1, c2, c3⟩ := pcells hP2; obtain ⟨l1, l2, l3, l4, l5⟩ := id hL2) | (go_at_call 87; (with_reducible refine (HC2.out w1 w1.heap.size w2 (Nat.le_refl _) hS2 hR2).mono ?_); rintro e w3 ⟨⟨v3, rfl⟩, hR3, hS3, hK3⟩; clear c1 c2 c3 l1 l2 l3 l4 l5) | (go_at_call 88; (with_reducible refine (HE.out _ _ hR3).mono ?_); rintro e w4 ⟨rfl, hS4⟩; have hT4 : Since w w4 := (hT1.trans hS3).trans hS4))
  go_ret
  exact ⟨by first | rfl | simp, hT4⟩
theorem px_hits (l : Ln) (hl : l.wf) (x y : Int) (w : World) : Calls Tryz.prog 56 #[l.v, Pt x y] w fun e w' => e = .returned (.bool (hitB l x y)) ∧ Since w w' := by
  unfold hitB
  cases h : (goodB l.ax l.ay && goodB l.bx l.bz && pixG x y)
  · exact px_hits_no l hl x y h w
  · exact px_hits_ok l hl x y h w
end Go.Proofs.YtcfghkphkmoikaaGreat
