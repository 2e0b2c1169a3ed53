/-
  Layer 15: the law CrossOn, walked.
-/
import Derived.Test.YtmimdicflmgchaaCrW
namespace Go.Proofs.Ytmimdicflmgchaa
open Go.RowKit
set_option linter.unusedVariables false

set_option maxRecDepth 100000 in
set_option maxHeartbeats 16000000 in
theorem crosson_of (px py : Int) (l : Ln) (o g1 g2 : Bool) (hn : (g1 && g2) = false → o = false) (w : World)
    (hO : ∀ w, Calls Try.prog 12 #[Pt px py, l.v] w fun e w' => e = .returned (.bool o) ∧ Since w w')
    (h1 : ∀ w, Calls Try.prog 13 #[Pt px py] w fun e w' => e = .returned (.bool g1) ∧ Since w w')
    (h2 : ∀ w, Calls Try.prog 14 #[l.v] w fun e w' => e = .returned (.bool g2) ∧ Since w w')
    (hR : ∀ w, (g1 && g2) = true → Calls Try.prog 15 #[Pt px py, l.v] w fun e w' => e = .returned (.bool o) ∧ Since w w') :
    Calls Try.prog 3 #[Pt px py, l.v] w fun e w' => e = .returned (.bool true) ∧ Since w w' := by
  have hN := fun w b hb ty => lrow w b hb ty l
  obtain ⟨ax, ay, bx, bz⟩ := l
  simp only at hN
  have HN := Lib.hid hN
  unfold Ln.v Pt at *
  have HO := Lib.hid hO
  have HG1 := Lib.hid h1
  have HG2 := Lib.hid h2
  have HR := Lib.hid hR
  clear hN hO h1 h2 hR
  cases g1 <;> cases g2
  all_goals
    first
      | (have ho : o = false := hn rfl
         subst ho)
      | (have HR2 := Lib.hid (fun w => HR.out w rfl))
    clear hn HR
    go_enter Try.func3, Try.ntmps3
    go_upto_region 1 with fail
    refine wp_named fun w0 hw0 => ?_
    have rP : Row w0 w.heap.size 2 (Pf px py) := by subst hw0; exact (prow w _ rfl _ _ _).alloc _
    have rL : Row w0 (w.heap.size + 1) 4 (Lf ⟨ax, ay, bx, bz⟩) := by subst hw0; exact HN.out _ _ (by simp) _
    have hT : Since w w0 := by subst hw0; (repeat (first | with_reducible (exact Since.refl _) | with_reducible assumption | with_reducible (refine Since.drew ?_) | with_reducible (refine Since.drewN ?_ _) | with_reducible (refine Since.alloc ?_ _) | (with_reducible (refine Since.setCell ?_ ?_ _); rotate_left; focus (first | (simp; done) | (simp; omega) | omega)) | (with_reducible (refine Since.trans ?_ (by with_reducible assumption)))))
    clear hw0 HN
    obtain ⟨p1, p2, p3⟩ := pcells rP
    obtain ⟨l1, l2, l3, l4, l5⟩ := lcells rL
    go_wp2_with (first | (go_at_call 11; (with_reducible refine (alive15 _).mono ?_); rintro e wk ⟨rfl, hSk⟩; have hT := hT.trans hSk; have rP := rP.since hSk; have rL := rL.since hSk; clear hSk; clear p1 p2 p3; obtain ⟨p1, p2, p3⟩ := pcells rP; clear l1 l2 l3 l4 l5; obtain ⟨l1, l2, l3, l4, l5⟩ := lcells rL) | (go_at_call 12; (with_reducible refine (HO.out _).mono ?_); rintro e wk ⟨rfl, hSk⟩; have hT := hT.trans hSk; have rP := rP.since hSk; have rL := rL.since hSk; clear hSk; clear p1 p2 p3; obtain ⟨p1, p2, p3⟩ := pcells rP; clear l1 l2 l3 l4 l5; obtain ⟨l1, l2, l3, l4, l5⟩ := lcells rL) | (go_at_call 13; (with_reducible refine (HG1.out _).mono ?_); rintro e wk ⟨rfl, hSk⟩; have hT := hT.trans hSk; have rP := rP.since hSk; have rL := rL.since hSk; clear hSk; clear p1 p2 p3; obtain ⟨p1, p2, p3⟩ := pcells rP; clear l1 l2 l3 l4 l5; obtain ⟨l1, l2, l3, l4, l5⟩ := lcells rL) | (go_at_call 14; (with_reducible refine (HG2.out _).mono ?_); rintro e wk ⟨rfl, hSk⟩; have hT := hT.trans hSk; have rP := rP.since hSk; have rL := rL.since hSk; clear hSk; clear p1 p2 p3; obtain ⟨p1, p2, p3⟩ := pcells rP; clear l1 l2 l3 l4 l5; obtain ⟨l1, l2, l3, l4, l5⟩ := lcells rL) | (go_at_call 15; (with_reducible refine (HR2.out _).mono ?_); rintro e wk ⟨rfl, hSk⟩; have hT := hT.trans hSk; have rP := rP.since hSk; have rL := rL.since hSk; clear hSk; clear p1 p2 p3; obtain ⟨p1, p2, p3⟩ := pcells rP; clear l1 l2 l3 l4 l5; obtain ⟨l1, l2, l3, l4, l5⟩ := lcells rL))
    go_ret
    exact ⟨by first | rfl | simp, hT⟩
theorem walk_crosson (px py : Int) (l : Ln) (h : InP px py) (hl : l.wf) (w : World) : Calls Try.prog 3 #[Pt px py, l.v] w fun e w' => e = .returned (.bool true) ∧ Since w w' := by
  refine crosson_of px py l (onB px py l) (goodB px py) (lnG l) (fun hn => ?_) w (fun w => cr_on px py l h hl w) (fun w => rf_good px py w) (fun w => r15_good l w) (fun w hg => r15_on px py l ?_ w)
  · unfold onB
    unfold lnG at hn
    cases hg : (goodB l.ax l.ay && goodB l.bx l.bz && goodB px py) with
    | false => rfl
    | true =>
      rw [Bool.and_comm] at hg
      rw [hg] at hn
      cases hn
  · unfold lnG at hg
    rw [Bool.and_comm]
    exact hg
end Go.Proofs.Ytmimdicflmgchaa
