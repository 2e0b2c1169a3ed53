/-
  Layer 15: the reference's On and Good, walked.
-/
import Derived.Test.YtmimdicflmgchaaCrB
import Derived.Test.YtmimdicflmgchaaGaG
namespace Go.Proofs.Ytmimdicflmgchaa
open Go.RowKit
set_option linter.unusedVariables false

set_option maxHeartbeats 8000000 in
theorem r15_good (l : Ln) (w : World) : Calls Try.prog 14 #[l.v] w fun e w' => e = .returned (.bool (goodB l.ax l.ay && goodB l.bx l.bz)) ∧ Since w w' := by
  have hN := fun w b hb t => ln_new w b hb l t
  have c1 := fun w => rf_good l.ax l.ay w
  have c2 := fun w => rf_good l.bx l.bz w
  unfold Pt Ln.v at *
  generalize goodB l.ax l.ay = G1 at *
  generalize goodB l.bx l.bz = G2 at *
  have HN := Lib.hid hN
  have H1 := Lib.hid c1
  have H2 := Lib.hid c2
  clear hN c1 c2
  cases G1
  all_goals
    go_enter Try.func14, Try.ntmps14
    go_wp2_with (first | (go_at_call 13; (with_reducible refine Calls.mono (H1.out _) ?_); rintro e w1 ⟨rfl, hS1⟩; have hL := (HN.out w _ rfl _).since hS1; have hS : Since w w1 := (by (repeat (first | with_reducible (exact Since.refl _) | with_reducible assumption | with_reducible (refine Since.drew ?_) | with_reducible (refine Since.drewN ?_ _) | with_reducible (refine Since.alloc ?_ _) | (with_reducible (refine Since.setCell ?_ ?_ _); rotate_left; focus (first | (simp; done) | (simp; omega) | omega)) | (with_reducible (refine Since.trans ?_ (by with_reducible assumption)))))); clear hS1; have hLL := hL; obtain ⟨l1, l2, l3, l4, l5⟩ := hLL) | (go_at_call 13; (with_reducible refine Calls.mono (H2.out _) ?_); rintro e w2 ⟨rfl, hS2⟩; have hT2 := hS.trans hS2))
    go_ret
    exact ⟨by first | rfl | simp, by (repeat (first | with_reducible (exact Since.refl _) | with_reducible assumption | with_reducible (refine Since.drew ?_) | with_reducible (refine Since.drewN ?_ _) | with_reducible (refine Since.alloc ?_ _) | (with_reducible (refine Since.setCell ?_ ?_ _); rotate_left; focus (first | (simp; done) | (simp; omega) | omega)) | (with_reducible (refine Since.trans ?_ (by with_reducible assumption)))))⟩
set_option maxHeartbeats 8000000 in
theorem ron_of (px py : Int) (l : Ln) (T : Int) (t0 b1 b2 b3 b4 : Bool) (w : World) (ht : (T == 0) = t0) (h1 : decide (lo2 l.ax l.bx ≤ px) = b1) (h2 : decide (px ≤ hi2 l.ax l.bx) = b2) (h3 : decide (lo2 l.ay l.bz ≤ py) = b3) (h4 : decide (py ≤ hi2 l.ay l.bz) = b4)
    (hT : ∀ w, Calls Try.prog 35 #[Pt l.ax l.ay, Pt l.bx l.bz, Pt px py] w fun e w' => e = .returned (.int .i64 T) ∧ Since w w') :
    Calls Try.prog 15 #[Pt px py, l.v] w fun e w' => e = .returned (.bool (t0 && (b1 && b2) && (b3 && b4))) ∧ Since w w' := by
  have hN := fun w b hb t => ln_new w b hb l t
  have hmin := min2_run
  have hmax := max2_run
  unfold Pt Ln.v at *
  have HN := Lib.hid hN
  have HT := Lib.hid hT
  clear hN hT
  cases t0 <;> cases b1 <;> cases b2 <;> cases b3
  all_goals
    go_enter Try.func15, Try.ntmps15
    go_wp2_with (first | (go_at_call 35; (with_reducible refine Calls.mono (HT.out _) ?_); rintro e w1 ⟨rfl, hS1⟩; have hP := ((pt_new w _ rfl px py _).alloc _).since hS1; have hL := (HN.out _ (w.heap.size + 1) (by simp) _).since hS1; have hS : Since w w1 := (by (repeat (first | with_reducible (exact Since.refl _) | with_reducible assumption | with_reducible (refine Since.drew ?_) | with_reducible (refine Since.drewN ?_ _) | with_reducible (refine Since.alloc ?_ _) | (with_reducible (refine Since.setCell ?_ ?_ _); rotate_left; focus (first | (simp; done) | (simp; omega) | omega)) | (with_reducible (refine Since.trans ?_ (by with_reducible assumption)))))); clear hS1; obtain ⟨p1, p2, p3⟩ := hP; obtain ⟨l1, l2, l3, l4, l5⟩ := hL))
    go_ret
    exact ⟨by first | rfl | simp, by (repeat (first | with_reducible (exact Since.refl _) | with_reducible assumption | with_reducible (refine Since.drew ?_) | with_reducible (refine Since.drewN ?_ _) | with_reducible (refine Since.alloc ?_ _) | (with_reducible (refine Since.setCell ?_ ?_ _); rotate_left; focus (first | (simp; done) | (simp; omega) | omega)) | (with_reducible (refine Since.trans ?_ (by with_reducible assumption)))))⟩
theorem r15_on (px py : Int) (l : Ln) (hg : (goodB l.ax l.ay && goodB l.bx l.bz && goodB px py) = true) (w : World) :
    Calls Try.prog 15 #[Pt px py, l.v] w fun e w' => e = .returned (.bool (onB px py l)) ∧ Since w w' := by
  obtain ⟨h12, h3⟩ := Bool.and_eq_true_iff.1 hg
  obtain ⟨h1, h2⟩ := Bool.and_eq_true_iff.1 h12
  obtain ⟨t1, t2⟩ := tiny_of h1
  obtain ⟨t3, t4⟩ := tiny_of h2
  obtain ⟨t5, t6⟩ := tiny_of h3
  have h := ron_of px py l _ _ _ _ _ _ w rfl rfl rfl rfl rfl (fun w => rf_turn l.ax l.ay l.bx l.bz px py t1 t2 t3 t4 t5 t6 w)
  unfold onB btw
  rw [hg, Bool.true_and]
  exact h
end Go.Proofs.Ytmimdicflmgchaa
