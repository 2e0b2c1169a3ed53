/-
  Layer 22: the law ArcDiscs, walked.
-/
import Derived.Test.YtckochcocflleaaArM
namespace Go.Proofs.Ytckochcocflleaa
open Go.RowKit Go.ChangeShapes Go.WideShapes Go.Deep
set_option linter.unusedVariables false

theorem discL_len {cx cy r : Int} (h : lenB r = true) : (discL cx cy r).length ≤ 1000 := by
  have h1 := closeD_len (rawD cx cy r (stpI r).toNat 4)
  have h2 := rawD_len cx cy r (stpI r).toNat 4
  have h3 := stpI_in h
  unfold discL
  omega
set_option maxRecDepth 100000 in
set_option maxHeartbeats 8000000 in
theorem walk_discs (x y r : Int) (hx : In64 x) (hy : In64 y) (w : World) :
    Calls Try.prog 9 #[Pt x y, .int .i64 r] w fun e w' => e = .returned (.bool true) ∧ Since w w' := by
  have hS1 := fun w => ar_steps r w
  have hS2 := fun w => rf_steps r w
  have hL := fun w => rf_length r w
  have hG := fun w => rf_good x y w
  by_cases hb : lenB r = true ∧ goodB x y = true
  · obtain ⟨h1, h2⟩ := hb
    have hD := fun w => ar_disc x y r h2 h1 w
    have hR := fun w => rf_disc x y r h2 h1 w
    have hlen := discL_len (cx := x) (cy := y) h1
    rw [h1] at hL
    rw [h2] at hG
    unfold DiscR at hR
    unfold Pt at *
    generalize discL x y r = L at *
    generalize stpI r = M at *
    have hSm := fun A B c d w h1 h2 => rf_sameP A B L c d w h1 h2 (by simp only [maxLen]; omega)
    obtain ⟨n, hn⟩ : ∃ n, n = L.length := ⟨_, rfl⟩
    rw [← hn] at hD hR hSm
    have HD := Lib.hid hD; have HR := Lib.hid hR; have HS1 := Lib.hid hS1; have HS2 := Lib.hid hS2; have HL := Lib.hid hL; have HG := Lib.hid hG; have HSM := Lib.hid hSm
    clear hD hR hS1 hS2 hL hG hSm hlen hn h1 h2 hx hy
    go_enter Try.func9, Try.ntmps9
    go_wp2_with (first | (go_at_call 31; refine (alive22 _).mono ?_; rintro e w1 ⟨rfl, hS1⟩; have hP1 := (pt_new w _ rfl x y _).since hS1; have hT1 : Since w w1 := (by (repeat (first | with_reducible (exact Since.refl _) | with_reducible assumption | with_reducible (refine Since.drew ?_) | with_reducible (refine Since.drewN ?_ _) | with_reducible (refine Since.alloc ?_ _) | (with_reducible (refine Since.setCell ?_ ?_ _); rotate_left; focus (first | (simp; done) | (simp; omega) | omega)) | (with_reducible (refine Since.trans ?_ (by with_reducible assumption)))))); clear hS1; obtain ⟨c1, c2, c3⟩ := id hP1) | (go_at_call 37; (with_reducible refine (HD.out _).mono ?_); rintro e w2 ⟨A2, k2, rfl, hR2, hS2⟩; have hP2 := hP1.since hS2; have hT2 := hT1.trans hS2; clear c1 c2 c3 hP1 hS2) | (go_at_call 38; (with_reducible refine (HS1.out _).mono ?_); rintro e w3 ⟨rfl, hS3⟩; have hP3 := hP2.since hS3; have hT3 := hT2.trans hS3; have hR3 := hR2.on hS3; clear hP2 hS3 hR2) | (go_at_call 39; (with_reducible refine (HS2.out _).mono ?_); rintro e w4 ⟨rfl, hS4⟩; have hP4 := hP3.since hS4; have hT4 := hT3.trans hS4; have hR4 := hR3.on hS4; clear hP3 hS4 hR3) | (go_at_call 40; (with_reducible refine (HL.out _).mono ?_); rintro e w5 ⟨rfl, hS5⟩; have hP5 := hP4.since hS5; have hT5 := hT4.trans hS5; have hR5 := hR4.on hS5; clear hP4 hS5 hR4; obtain ⟨c1, c2, c3⟩ := id hP5) | (go_at_call 22; (with_reducible refine (HG.out _).mono ?_); rintro e w6 ⟨rfl, hS6⟩; have hP6 := hP5.since hS6; have hT6 := hT5.trans hS6; have hR6 := hR5.on hS6; clear c1 c2 c3 hP5 hS6 hR5; obtain ⟨c1, c2, c3⟩ := id hP6) | (go_at_call 42; (with_reducible refine (HR.out _).mono ?_); rintro e w7 ⟨A7, k7, rfl, hR7, hS7⟩; have hT7 := hT6.trans hS7; have hQ7 := hR6.on hS7; clear c1 c2 c3 hP6 hS7 hR6) | (go_at_call 41; (with_reducible refine (HSM.out _ _ _ _ _ hQ7 hR7).mono ?_); rintro e w8 ⟨rfl, hS8⟩))
    go_ret
    exact ⟨by first | rfl | simp, by (repeat (first | with_reducible (exact Since.refl _) | with_reducible assumption | with_reducible (refine Since.drew ?_) | with_reducible (refine Since.drewN ?_ _) | with_reducible (refine Since.alloc ?_ _) | (with_reducible (refine Since.setCell ?_ ?_ _); rotate_left; focus (first | (simp; done) | (simp; omega) | omega)) | (with_reducible (refine Since.trans ?_ (by with_reducible assumption)))))⟩
  · have hb2 : lenB r = false ∨ goodB x y = false := by
      cases h1 : lenB r
      · exact .inl rfl
      · cases h2 : goodB x y
        · exact .inr rfl
        · exact absurd ⟨h1, h2⟩ hb
    have hD := fun w => ar_disc_no x y r ⟨hx, hy⟩ w hb2
    unfold Pt at *
    generalize stpI r = M at *
    cases h1 : lenB r
    · rw [h1] at hD hL
      simp only [Bool.false_eq_true, if_false] at hD
      have HD := Lib.hid hD; have HS1 := Lib.hid hS1; have HS2 := Lib.hid hS2; have HL := Lib.hid hL; have HG := Lib.hid hG
      clear hD hS1 hS2 hL hG hx hy hb hb2 h1
      go_enter Try.func9, Try.ntmps9
      go_wp2_with (first | (go_at_call 31; refine (alive22 _).mono ?_; rintro e w1 ⟨rfl, hS1⟩; have hP1 := (pt_new w _ rfl x y _).since hS1; have hT1 : Since w w1 := (by (repeat (first | with_reducible (exact Since.refl _) | with_reducible assumption | with_reducible (refine Since.drew ?_) | with_reducible (refine Since.drewN ?_ _) | with_reducible (refine Since.alloc ?_ _) | (with_reducible (refine Since.setCell ?_ ?_ _); rotate_left; focus (first | (simp; done) | (simp; omega) | omega)) | (with_reducible (refine Since.trans ?_ (by with_reducible assumption)))))); clear hS1; obtain ⟨c1, c2, c3⟩ := id hP1) | (go_at_call 37; (with_reducible refine (HD.out _).mono ?_); rintro e w2 ⟨rfl, hS2⟩; have hP2 := hP1.since hS2; have hT2 := hT1.trans hS2; clear c1 c2 c3 hP1 hS2) | (go_at_call 38; (with_reducible refine (HS1.out _).mono ?_); rintro e w3 ⟨rfl, hS3⟩; have hP3 := hP2.since hS3; have hT3 := hT2.trans hS3; clear hP2 hS3) | (go_at_call 39; (with_reducible refine (HS2.out _).mono ?_); rintro e w4 ⟨rfl, hS4⟩; have hP4 := hP3.since hS4; have hT4 := hT3.trans hS4; clear hP3 hS4) | (go_at_call 40; (with_reducible refine (HL.out _).mono ?_); rintro e w5 ⟨rfl, hS5⟩; have hP5 := hP4.since hS5; have hT5 := hT4.trans hS5; clear hP4 hS5; obtain ⟨c1, c2, c3⟩ := id hP5))
      go_ret
      exact ⟨by first | rfl | simp, by (repeat (first | with_reducible (exact Since.refl _) | with_reducible assumption | with_reducible (refine Since.drew ?_) | with_reducible (refine Since.drewN ?_ _) | with_reducible (refine Since.alloc ?_ _) | (with_reducible (refine Since.setCell ?_ ?_ _); rotate_left; focus (first | (simp; done) | (simp; omega) | omega)) | (with_reducible (refine Since.trans ?_ (by with_reducible assumption)))))⟩
    · rw [h1] at hD hL hb2
      have h2 : goodB x y = false := by simpa using hb2
      rw [h2] at hG
      simp only [if_true] at hD
      have HD := Lib.hid hD; have HS1 := Lib.hid hS1; have HS2 := Lib.hid hS2; have HL := Lib.hid hL; have HG := Lib.hid hG
      clear hD hS1 hS2 hL hG hx hy hb hb2 h1 h2
      go_enter Try.func9, Try.ntmps9
      go_wp2_with (first | (go_at_call 31; refine (alive22 _).mono ?_; rintro e w1 ⟨rfl, hS1⟩; have hP1 := (pt_new w _ rfl x y _).since hS1; have hT1 : Since w w1 := (by (repeat (first | with_reducible (exact Since.refl _) | with_reducible assumption | with_reducible (refine Since.drew ?_) | with_reducible (refine Since.drewN ?_ _) | with_reducible (refine Since.alloc ?_ _) | (with_reducible (refine Since.setCell ?_ ?_ _); rotate_left; focus (first | (simp; done) | (simp; omega) | omega)) | (with_reducible (refine Since.trans ?_ (by with_reducible assumption)))))); clear hS1; obtain ⟨c1, c2, c3⟩ := id hP1) | (go_at_call 37; (with_reducible refine (HD.out _).mono ?_); rintro e w2 ⟨rfl, hS2⟩; have hP2 := hP1.since hS2; have hT2 := hT1.trans hS2; clear c1 c2 c3 hP1 hS2) | (go_at_call 38; (with_reducible refine (HS1.out _).mono ?_); rintro e w3 ⟨rfl, hS3⟩; have hP3 := hP2.since hS3; have hT3 := hT2.trans hS3; clear hP2 hS3) | (go_at_call 39; (with_reducible refine (HS2.out _).mono ?_); rintro e w4 ⟨rfl, hS4⟩; have hP4 := hP3.since hS4; have hT4 := hT3.trans hS4; clear hP3 hS4) | (go_at_call 40; (with_reducible refine (HL.out _).mono ?_); rintro e w5 ⟨rfl, hS5⟩; have hP5 := hP4.since hS5; have hT5 := hT4.trans hS5; clear hP4 hS5; obtain ⟨c1, c2, c3⟩ := id hP5) | (go_at_call 22; (with_reducible refine (HG.out _).mono ?_); rintro e w6 ⟨rfl, hS6⟩; have hP6 := hP5.since hS6; have hT6 := hT5.trans hS6; clear c1 c2 c3 hP5 hS6; obtain ⟨c1, c2, c3⟩ := id hP6))
      go_ret
      exact ⟨by first | rfl | simp, by (repeat (first | with_reducible (exact Since.refl _) | with_reducible assumption | with_reducible (refine Since.drew ?_) | with_reducible (refine Since.drewN ?_ _) | with_reducible (refine Since.alloc ?_ _) | (with_reducible (refine Since.setCell ?_ ?_ _); rotate_left; focus (first | (simp; done) | (simp; omega) | omega)) | (with_reducible (refine Since.trans ?_ (by with_reducible assumption)))))⟩
end Go.Proofs.Ytckochcocflleaa
