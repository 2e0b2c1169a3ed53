/-
  Layer 15: 'On', walked.
-/
import Derived.Test.YtmimdicflmgchaaCrA
namespace Go.Proofs.Ytmimdicflmgchaa
open Go.RowKit
set_option linter.unusedVariables false

def onB (px py : Int) (l : Ln) : Bool := (goodB l.ax l.ay && goodB l.bx l.bz && goodB px py) && (turnI l.ax l.ay l.bx l.bz px py == 0) && btw l.ax px l.bx && btw l.ay py l.bz
set_option maxHeartbeats 8000000 in
theorem on_of (px py : Int) (l : Ln) (T E : Int) (e0 t0 b1 b2 : Bool) (w : World) (he : (E == 0) = e0) (ht : (T == 0) = t0) (h1 : btw l.ax px l.bx = b1) (h2 : btw l.ay py l.bz = b2)
    (hT : ∀ w, Calls Try.prog 33 #[Pt l.ax l.ay, Pt l.bx l.bz, Pt px py] w fun e w' => e = .returned (.tuple #[.int .i64 T, .int .i64 E]) ∧ Since w w') :
    Calls Try.prog 12 #[Pt px py, l.v] w fun e w' => e = .returned (.bool (e0 && t0 && b1 && b2)) ∧ Since w w' := by
  have hN := fun w b hb t => ln_new w b hb l t
  have c1 := fun w => cr_between l.ax px l.bx w
  have c2 := fun w => cr_between l.ay py l.bz w
  rw [h1] at c1
  rw [h2] at c2
  unfold Pt Ln.v at *
  have HN := Lib.hid hN
  have HT := Lib.hid hT
  have H1 := Lib.hid c1
  have H2 := Lib.hid c2
  clear hN hT c1 c2 h1 h2
  cases e0 <;> cases t0 <;> cases b1
  all_goals
    go_enter Try.func12, Try.ntmps12
    go_wp2_with (first | (go_at_call 33; (with_reducible refine Calls.mono (HT.out _) ?_); rintro e w1 ⟨rfl, hS1⟩; have hP := ((pt_new w _ rfl px py _).alloc _).since hS1; have hL := (HN.out _ (w.heap.size + 1) (by simp) _).since hS1; have hS : Since w w1 := (by (repeat (first | with_reducible (exact Since.refl _) | with_reducible assumption | with_reducible (refine Since.drew ?_) | with_reducible (refine Since.drewN ?_ _) | with_reducible (refine Since.alloc ?_ _) | (with_reducible (refine Since.setCell ?_ ?_ _); rotate_left; focus (first | (simp; done) | (simp; omega) | omega)) | (with_reducible (refine Since.trans ?_ (by with_reducible assumption)))))); clear hS1; have hPP := hP; obtain ⟨p1, p2, p3⟩ := hPP; have hLL := hL; obtain ⟨l1, l2, l3, l4, l5⟩ := hLL) | (go_at_call 34; (with_reducible refine Calls.mono (H1.out _) ?_); rintro e w2 ⟨rfl, hS2⟩; have hP2 := hP.since hS2; have hL2 := hL.since hS2; have hT2 := hS.trans hS2; clear hS2 hS hP hL p1 p2 p3 l1 l2 l3 l4 l5; obtain ⟨p1, p2, p3⟩ := hP2; obtain ⟨l1, l2, l3, l4, l5⟩ := hL2) | (go_at_call 34; (with_reducible refine Calls.mono (H2.out _) ?_); rintro e w3 ⟨rfl, hS3⟩; have hT3 := hT2.trans hS3))
    go_ret
    exact ⟨by first | rfl | simp, by (repeat (first | with_reducible (exact Since.refl _) | with_reducible assumption | with_reducible (refine Since.drew ?_) | with_reducible (refine Since.drewN ?_ _) | with_reducible (refine Since.alloc ?_ _) | (with_reducible (refine Since.setCell ?_ ?_ _); rotate_left; focus (first | (simp; done) | (simp; omega) | omega)) | (with_reducible (refine Since.trans ?_ (by with_reducible assumption)))))⟩
theorem cr_on (px py : Int) (l : Ln) (h : InP px py) (hl : l.wf) (w : World) :
    Calls Try.prog 12 #[Pt px py, l.v] w fun e w' => e = .returned (.bool (onB px py l)) ∧ Since w w' := by
  have hT := fun w => ga_turn l.ax l.ay l.bx l.bz px py hl.1 hl.2 h w
  unfold onB
  cases hg : (goodB l.ax l.ay && goodB l.bx l.bz && goodB px py) with
  | false =>
    rw [hg] at hT
    exact on_of px py l _ _ false true _ _ w rfl rfl rfl rfl hT
  | true =>
    rw [hg] at hT
    exact on_of px py l _ _ true _ _ _ w rfl rfl rfl rfl hT
end Go.Proofs.Ytmimdicflmgchaa
