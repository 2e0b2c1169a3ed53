/-
  Layer 22: 'alive'; the laws ArcAlong and ArcDiscs, walked.
-/
import Derived.Test.YtckochcocflleaaArK
namespace Go.Proofs.Ytckochcocflleaa
open Go.RowKit Go.ChangeShapes Go.WideShapes Go.Deep
set_option linter.unusedVariables false

theorem root_num {a r : Int} (h : 0 ≤ r ∧ r * r ≤ a ∧ a < (r + 1) * (r + 1)) : rootI a = r := rootI_eq h
theorem shr_a : shrI 3 10 25 = 6 := by unfold shrI; rw [if_neg (by omega), show (2 * 3 * 10 * (2 * 3 * 10) / 25 : Int) = 144 by rfl, root_num (r := 12) (by omega)]; rfl
theorem shr_b : shrI 4 10 25 = 8 := by unfold shrI; rw [if_neg (by omega), show (2 * 4 * 10 * (2 * 4 * 10) / 25 : Int) = 256 by rfl, root_num (r := 16) (by omega)]; rfl
theorem shr_c : shrI 1 10 2 = 7 := by unfold shrI; rw [if_neg (by omega), show (2 * 1 * 10 * (2 * 1 * 10) / 2 : Int) = 200 by rfl, root_num (r := 14) (by omega)]; rfl
theorem shr_d : shrI 1 10 1 = 10 := by unfold shrI; rw [if_neg (by omega), show (2 * 1 * 10 * (2 * 1 * 10) / 1 : Int) = 400 by rfl, root_num (r := 20) (by omega)]; rfl
theorem shr_c' : shrI (-1) 10 2 = -7 := by rw [shr_neg, shr_c]
theorem shr_d' : shrI (-1) 10 1 = -10 := by rw [shr_neg, shr_d]
theorem al_a : alX 3 4 10 = 6 ∧ alY 3 4 10 = 8 := ⟨shr_a, shr_b⟩
abbrev L8 : List Pq := [⟨7, -7⟩, ⟨10, 0⟩, ⟨7, 7⟩, ⟨0, 10⟩, ⟨-7, 7⟩, ⟨-10, 0⟩, ⟨-7, -7⟩, ⟨0, -10⟩]
theorem pt_is {s i : Nat} {x y : Int} (hx : alX (dirD 1 s i).1 (dirD 1 s i).2 10 = x) (hy : alY (dirD 1 s i).1 (dirD 1 s i).2 10 = y) : ptD 0 0 10 1 s i = ⟨x, y⟩ := by
  unfold ptD
  rw [hx, hy, Int.zero_add, Int.zero_add]
theorem pts8 : ptD 0 0 10 1 0 0 = ⟨7, -7⟩ ∧ ptD 0 0 10 1 0 1 = ⟨10, 0⟩ ∧ ptD 0 0 10 1 1 0 = ⟨7, 7⟩ ∧ ptD 0 0 10 1 1 1 = ⟨0, 10⟩ ∧ ptD 0 0 10 1 2 0 = ⟨-7, 7⟩ ∧ ptD 0 0 10 1 2 1 = ⟨-10, 0⟩ ∧ ptD 0 0 10 1 3 0 = ⟨-7, -7⟩ ∧ ptD 0 0 10 1 3 1 = ⟨0, -10⟩ :=
  ⟨pt_is shr_c shr_c', pt_is shr_d shr_zero, pt_is shr_c shr_c, pt_is shr_zero shr_d, pt_is shr_c' shr_c, pt_is shr_d' shr_zero, pt_is shr_c' shr_c', pt_is shr_zero shr_d'⟩
theorem stp_10 : stpI 10 = 1 := by decide
theorem disc_10 : discL 0 0 10 = L8 := by
  unfold discL
  rw [stp_10]
  obtain ⟨h1, h2, h3, h4, h5, h6, h7, h8⟩ := pts8
  have e : rawD 0 0 10 1 4 = L8 := by
    simp only [rawD, sideD, h1, h2, h3, h4, h5, h6, h7, h8]
    rfl
  show closeD (rawD 0 0 10 1 4) = L8
  rw [e]
  rfl
theorem same8 (A : Option Addr) (c : Nat) (w : World) (b : Nat) (hb : b = w.heap.size) (t : TypeId) (h : RdG 2 ptL w w.heap.size A L8) :
    Calls Try.prog 41 #[.slice A 8 c, .slice (some ⟨b, 0, none⟩) 8 8] (w.alloc (.cells #[.int .i64 7, .int .i64 (-7), .int .i64 10, .int .i64 0, .int .i64 7, .int .i64 7, .int .i64 0, .int .i64 10, .int .i64 (-7), .int .i64 7, .int .i64 (-10), .int .i64 0, .int .i64 (-7), .int .i64 (-7), .int .i64 0, .int .i64 (-10)] t)) fun e w' => e = .returned (.bool true) ∧ Since w w' := by
  have h2 := rf_sameP A (some ⟨b, 0, none⟩) L8 c 8 (w.alloc (.cells #[.int .i64 7, .int .i64 (-7), .int .i64 10, .int .i64 0, .int .i64 7, .int .i64 7, .int .i64 0, .int .i64 10, .int .i64 (-7), .int .i64 7, .int .i64 (-10), .int .i64 0, .int .i64 (-7), .int .i64 (-7), .int .i64 0, .int .i64 (-10)] t)) (h.on ((Since.refl w).alloc _)) (rdG_lit hb L8 (fun j s hj i hi => by
    have hj8 : j < 8 := by
      rcases Nat.lt_or_ge j 8 with h | h
      · exact h
      · rw [List.getElem?_eq_none (by exact h)] at hj; cases hj
    have hjc : j = 0 ∨ j = 1 ∨ j = 2 ∨ j = 3 ∨ j = 4 ∨ j = 5 ∨ j = 6 ∨ j = 7 := by omega
    have hic : i = 0 ∨ i = 1 := by omega
    rcases hjc with rfl | rfl | rfl | rfl | rfl | rfl | rfl | rfl <;> (injection hj with hj; subst hj; rcases hic with rfl | rfl <;> rfl))) (by decide)
  exact h2.mono fun e w' hh => ⟨hh.1, ((Since.refl w).alloc _).trans hh.2⟩
set_option maxRecDepth 100000 in
set_option maxHeartbeats 8000000 in
theorem alive22 (w : World) : Calls Try.prog 31 #[] w fun e w' => e = .returned (.bool true) ∧ Since w w' := by
  have hA := fun w => ar_along_ok 3 4 10 (by decide) w
  rw [al_a.1, al_a.2] at hA
  have hN := fun w => ar_normal 3 4 10 (by unfold In64; omega) w
  have e1 : noXe 3 4 10 = -8 := by unfold noXe; rw [if_pos (by decide), al_a.2]
  have e2 : noYe 3 4 10 = 6 := by unfold noYe; rw [if_pos (by decide), al_a.1]
  rw [e1, e2, show alE 3 4 10 = 0 by decide] at hN
  have hD := fun w => ar_disc 0 0 10 (by decide) (by decide) w
  rw [disc_10] at hD
  change ∀ w, Calls Try.prog 37 #[Pt 0 0, .int .i64 10] w fun e w' => ∃ A c, e = .returned (.tuple #[.slice A 8 c, .int .i64 0]) ∧ RdG 2 ptL w' w'.heap.size A L8 ∧ Since w w' at hD
  have hS1 := fun w => ar_steps 384 w
  have hS2 := fun w => ar_steps 385 w
  rw [show stpI 384 = 1 by decide] at hS1
  rw [show stpI 385 = 2 by decide] at hS2
  have hSame := same8
  unfold Pt at hA hN hD
  have HA := Lib.hid hA; have HN := Lib.hid hN; have HD := Lib.hid hD; have HS1 := Lib.hid hS1; have HS2 := Lib.hid hS2; have HSM := Lib.hid hSame
  clear hA hN hD hS1 hS2 hSame e1 e2
  have tok1 := True.intro
  go_enter Try.func31, Try.ntmps31
  go_wp2_with (first | (go_at_call 32; (with_reducible refine (HA.out _).mono ?_); rintro e w1 ⟨rfl, hS1⟩) | (go_at_call 33; (with_reducible refine (HN.out _).mono ?_); rintro e w2 ⟨rfl, hS2⟩; have hP1 := (pt_new w1 _ rfl 6 8 _).since hS2; have hT2 : Since w w2 := (by (repeat (first | with_reducible (exact Since.refl _) | with_reducible assumption | with_reducible (refine Since.drew ?_) | with_reducible (refine Since.drewN ?_ _) | with_reducible (refine Since.alloc ?_ _) | (with_reducible (refine Since.setCell ?_ ?_ _); rotate_left; focus (first | (simp; done) | (simp; omega) | omega)) | (with_reducible (refine Since.trans ?_ (by with_reducible assumption)))))); clear hS1 hS2) | (go_at_call 37; (with_reducible refine (HD.out _).mono ?_); rintro e w3 ⟨A, c, rfl, hR3, hS3⟩; have hP2 := (pt_new w2 _ rfl (-8) 6 _).since hS3; have hP3 := (hP1.alloc _).since hS3; have hT3 : Since w w3 := (by (repeat (first | with_reducible (exact Since.refl _) | with_reducible assumption | with_reducible (refine Since.drew ?_) | with_reducible (refine Since.drewN ?_ _) | with_reducible (refine Since.alloc ?_ _) | (with_reducible (refine Since.setCell ?_ ?_ _); rotate_left; focus (first | (simp; done) | (simp; omega) | omega)) | (with_reducible (refine Since.trans ?_ (by with_reducible assumption)))))); clear hP1 hS3; obtain ⟨c1, c2, c3⟩ := id hP2; obtain ⟨d1, d2, d3⟩ := id hP3) | (go_at_call 38; have _t := tok1; (with_reducible refine (HS1.out _).mono ?_); rintro e w4 ⟨rfl, hS4⟩; clear tok1; have hR4 := hR3.on hS4; have hP4 := hP2.since hS4; have hP5 := hP3.since hS4; clear c1 c2 c3 d1 d2 d3 hP2 hP3; obtain ⟨c1, c2, c3⟩ := id hP4; obtain ⟨d1, d2, d3⟩ := id hP5) | (go_at_call 38; (with_reducible refine (HS2.out _).mono ?_); rintro e w5 ⟨rfl, hS5⟩; have hR5 := hR4.on hS5; clear c1 c2 c3 d1 d2 d3 hP4 hP5) | (go_at_call 41; (with_reducible refine (HSM.out _ _ _ _ (by rfl) _ hR5).mono ?_); rintro e w6 ⟨rfl, hS6⟩))
  go_ret
  exact ⟨by first | rfl | simp, by (repeat (first | with_reducible (exact Since.refl _) | with_reducible assumption | with_reducible (refine Since.drew ?_) | with_reducible (refine Since.drewN ?_ _) | with_reducible (refine Since.alloc ?_ _) | (with_reducible (refine Since.setCell ?_ ?_ _); rotate_left; focus (first | (simp; done) | (simp; omega) | omega)) | (with_reducible (refine Since.trans ?_ (by with_reducible assumption)))))⟩
end Go.Proofs.Ytckochcocflleaa
