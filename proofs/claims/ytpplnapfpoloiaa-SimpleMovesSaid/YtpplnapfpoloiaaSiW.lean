/-
  Layer 7: 'alive' holds.
-/
import Derived.Test.YtpplnapfpoloiaaSiV
import Derived.Deep.CutBlock
import Derived.Deep.DeepCutAuto
namespace Go.Proofs.Ytpplnapfpoloiaa
open Go.RowKit Go.ChangeShapes Go.WideShapes Go.Deep
set_option linter.unusedVariables false
set_option linter.unusedSimpArgs false
attribute [local go_sem] eq_pt7
@[go_sem] theorem fd7_0 (a b : Value) (w : World) : (Instr.field 52 (.agg #[a, b]) 0).run Try.prog w = .ok a w := by kernel_rfl
@[go_sem] theorem fd7_1 (a b : Value) (w : World) : (Instr.field 52 (.agg #[a, b]) 1).run Try.prog w = .ok b w := by kernel_rfl
theorem al_same7 (A A' : Option Addr) (c c' : Nat) (w : World) (h : RdOL w w.heap.size A trK) (h' : RdOL w w.heap.size A' trK) :
    Calls Try.prog 35 #[.slice A 1 c, .slice A' 1 c'] w fun e w' => e = .returned (.bool true) ∧ Since w w' :=
  rf_sameL A A' c c' trK w h h' (by simp [trK, maxLen]) (by simp [trK, maxLen])
theorem held_since {A : Option Addr} {c : Nat} {w0 w1 : World} (h : (∀ b o, b < w0.heap.size → w1.cell? ⟨b, o, none⟩ = w0.cell? ⟨b, o, none⟩) ∧ Since w0 w1 ∧ (convert 26 9 (.slice A 21 c)).run Try.prog w1 = .ok (.string (strOfNums [0, 1, 0, 0, 0, 0, 0, 100, 1, 44, 0, 2, 0, 0, 49, 51, 3, 100, 100, 1, 44])) w1) : Since w0 w1 := h.2.1
set_option maxRecDepth 100000 in
set_option maxHeartbeats 8000000 in
theorem alive07 (w : World) : Calls Try.prog 32 #[] w fun e w' => e = .returned (.bool true) ∧ Since w w' := by
  have kt : ((strOfNums [0, 1, 0, 0, 0, 0, 0, 100, 1, 44, 0, 2, 0, 0, 49, 51, 3, 100, 100, 1, 44]).toList == [0, 1, 0, 0, 0, 0, 0, 100, 1, 44, 0, 2, 0, 0, 49, 51, 3, 100, 100, 1, 44]) = true := by kernel_rfl
  have tok1 : True := trivial
  have tok2 : True := trivial
  go_enter Try.func32, Try.ntmps32
  go_upto_region 4 with (first | (go_at_call 71; have _t := tok1; (with_reducible refine (tri07 _).mono ?_); rintro e w1 ⟨A1, rfl, hR1, hS1⟩; clear tok1) | (go_at_call 38; (with_reducible refine (al_write7 A1 _ hR1).mono ?_); rintro e w2 ⟨A2, c2, rfl, hc2, hB2, hS2⟩; have hT2 := hS1.trans hS2; clear hS1 hS2) | (go_at_call 33; (with_reducible refine (al_read7 A2 c2 _ hB2 hc2).mono ?_); rintro e w3 ⟨A3, c3, A4, c4, rfl, hR3, hS3⟩; have hT3 := hT2.trans hS3; have hB3 := hB2.on hS3; clear hT2 hS3 hB2) | (go_at_call 71; have _t := tok2; (with_reducible refine (tri07 _).mono ?_); rintro e w5 ⟨A5, rfl, hR5, hS5⟩; have hS53 : Since w3 w5 := ((Since.refl w3).alloc (.cells #[.slice A3 1 c3, .slice A4 0 c4] 52)).trans hS5; have hT5 := hT3.trans hS53; have hB5 := hB3.on hS53; have hR35 := hR3.on hS53; have hG5 := (two_new w3 w3.heap.size rfl (.slice A3 1 c3) (.slice A4 0 c4) 52).since hS5; clear tok2 hB3 hR3 hT3) | (go_at_call 40; (with_reducible refine (al_box7 A5 _ hR5).mono ?_); rintro e w6 ⟨rfl, hS6⟩; have hT6 := hT5.trans hS6; have hB6 := hB5.on hS6; have hR6 := hR35.on hS6; have hG6 := hG5.since hS6; clear hB5 hR35 hT5 hG5))
  refine wp_named fun wq hwq => ?_
  have hQ : Since w wq := by subst hwq; exact (hT6.alloc _).alloc _
  have hBq : RdB wq wq.heap.size A2 trB := by subst hwq; exact (hB6.on ((Since.refl w6).alloc _)).on ((Since.refl _).alloc _)
  have hRq : RdOL wq wq.heap.size A3 trK := by subst hwq; exact (hR6.on ((Since.refl w6).alloc _)).on ((Since.refl _).alloc _)
  have hGq : Two wq w3.heap.size (.slice A3 1 c3) (.slice A4 0 c4) := by subst hwq; exact (hG6.alloc _).alloc _
  have hPq : Two wq w6.heap.size (.int .i64 0) (.int .i64 0) := by subst hwq; exact (two_new w6 w6.heap.size rfl _ _ _).alloc _
  have hPr : Two wq (w6.heap.size + 1) (.int .i64 100) (.int .i64 300) := by subst hwq; exact two_new _ (w6.heap.size + 1) (by simp) _ _ _
  obtain ⟨g0, g1, _, _, g4⟩ := hGq
  obtain ⟨p0, p1, _, _, p4⟩ := hPq
  obtain ⟨q0, q1, _, _, q4⟩ := hPr
  clear hwq hR6 hB6 hG6 hT6 hS6 hS53 hR5 hS5 hc2 hR1
  go_region_held3 (fun w' => (∀ b o, b < wq.heap.size → w'.cell? ⟨b, o, none⟩ = wq.cell? ⟨b, o, none⟩) ∧ Since wq w' ∧ (convert 26 9 (.slice A2 21 c2)).run Try.prog w' = .ok (.string (strOfNums [0, 1, 0, 0, 0, 0, 0, 100, 1, 44, 0, 2, 0, 0, 49, 51, 3, 100, 100, 1, 44])) w') (first | with_reducible assumption | (refine cv_step hBq (by with_reducible assumption) ?_; first | with_reducible assumption | ((repeat (first | with_reducible (exact Since.refl _) | with_reducible assumption | with_reducible (refine Since.drew ?_) | with_reducible (refine Since.drewN ?_ _) | with_reducible (refine Since.alloc ?_ _) | (with_reducible (refine Since.setCell ?_ ?_ _); rotate_left; focus (first | (simp; done) | (simp; omega) | omega)))); done)) | (refine cv_step hBq (cv_start hBq _) ?_; first | with_reducible assumption | ((repeat (first | with_reducible (exact Since.refl _) | with_reducible assumption | with_reducible (refine Since.drew ?_) | with_reducible (refine Since.drewN ?_ _) | with_reducible (refine Since.alloc ?_ _) | (with_reducible (refine Since.setCell ?_ ?_ _); rotate_left; focus (first | (simp; done) | (simp; omega) | omega)))); done))) ((first | (go_at_call 71; (with_reducible refine (tri07 _).mono ?_); rintro e w7 ⟨A7, rfl, hR7, hS7⟩) | (go_at_call 35; (with_reducible refine (al_same7 A3 A7 _ _ _ (hRq.on (held_since (by with_reducible assumption))) (hR7.on (by (repeat (first | with_reducible (exact Since.refl _) | with_reducible assumption | with_reducible (refine Since.drew ?_) | with_reducible (refine Since.drewN ?_ _) | with_reducible (refine Since.alloc ?_ _) | (with_reducible (refine Since.setCell ?_ ?_ _); rotate_left; focus (first | (simp; done) | (simp; omega) | omega)))))) ).mono ?_); rintro e w8 ⟨rfl, hS8⟩)))
  all_goals (rename_i hHeld; have hSX := hQ.trans (held_since hHeld); go_wp2_with fail)
  all_goals go_ret
  all_goals exact ⟨by first | rfl | simp, by first | exact hSX | exact hSX.drew⟩
end Go.Proofs.Ytpplnapfpoloiaa
