/-
  Texts of this seat, put together: each with its own head.
-/
import Derived.Test.YtckochcocflleaaPqBi
import Derived.JoinedCond

/-
  Layer 16: the laws PixelOf and PixelHits, walked.
-/
namespace Go.Proofs.Ytckochcocflleaa
open Go.RowKit
set_option linter.unusedVariables false

set_option maxRecDepth 100000 in
set_option maxHeartbeats 8000000 in
theorem walk_pixelof (x y : Int) (hx : In64 x) (hy : In64 y) (w : World) : Calls Try.prog 4 #[Pt x y] w fun e w' => e = .returned (.bool true) ∧ Since w w' := by
  unfold In64 at hx hy
  have HA := Lib.hid (fun w => alive16 w)
  have heq := eq_pt
  by_cases h1 : x ≤ 9223372036854775775
  · by_cases h2 : y ≤ 9223372036854775775
    · have hof := fun w => px_of x y ⟨hx.1, h1⟩ ⟨hy.1, h2⟩ w
      have hrf := fun w => rf16_of x y ⟨hx.1, h1⟩ ⟨hy.1, h2⟩ w
      have hgd := fun w => rf_good x y w
      have hX : -32 ≤ x - 64 * pxI x ∧ x - 64 * pxI x < 32 := by unfold pxI; omega
      have hY : -32 ≤ y - 64 * pxI y ∧ y - 64 * pxI y < 32 := by unfold pxI; omega
      have hgi : goodB x y = true → (-4194304 ≤ x ∧ x ≤ 4194304 ∧ -4194304 ≤ y ∧ y ≤ 4194304) := goodB_iff.1
      generalize pxI x = X at *
      generalize pxI y = Y at *
      unfold Pt at *
      have d1 : decide ((9223372036854775775 : Int) < x) = false := by simp; omega
      have d2 : decide ((9223372036854775775 : Int) < y) = false := by simp; omega
      have HOF := Lib.hid hof; have HRF := Lib.hid hrf; have HP := Lib.hid (fun w b hb t => pt_new w b hb x y t); have HQ := Lib.hid (fun w b hb t => pt_new w b hb X Y t)
      cases hg : goodB x y
      · rw [hg] at hgd
        have HGD := Lib.hid hgd
        clear hof hrf hgd hg hgi h1 h2 hx hy hX hY
        go_enter Try.func4, Try.ntmps4
        go_upto_region 6 with (first | (go_at_call 19; (with_reducible refine (HA.out _).mono ?_); rintro e w1 ⟨rfl, hS1⟩; have hP1 := (HP.out w _ rfl _).since hS1; have hT1 : Since w w1 := (by (repeat (first | with_reducible (exact Since.refl _) | with_reducible assumption | with_reducible (refine Since.drew ?_) | with_reducible (refine Since.drewN ?_ _) | with_reducible (refine Since.alloc ?_ _) | (with_reducible (refine Since.setCell ?_ ?_ _); rotate_left; focus (first | (simp; done) | (simp; omega) | omega)) | (with_reducible (refine Since.trans ?_ (by with_reducible assumption)))))); clear hS1; obtain ⟨c1, c2, c3⟩ := id hP1) | (go_at_call 20; (with_reducible refine (HOF.out _).mono ?_); rintro e w2 ⟨rfl, hS2⟩; have hP2 := hP1.since hS2; have hT2 := hT1.trans hS2; clear hS2 c1 c2 c3 hP1))
        refine wp_named fun wa hwa => ?_
        have hPa : PtAt wa w.heap.size x y := by subst hwa; exact hP2.alloc _
        have hQa : PtAt wa w2.heap.size X Y := by subst hwa; exact HQ.out w2 _ rfl _
        have hTa : Since w wa := by subst hwa; exact hT2.alloc _
        clear hwa hP2 hT2 hT1
        generalize w2.heap.size = b2 at *
        obtain ⟨c1, c2, c3⟩ := id hPa
        obtain ⟨e1, e2, e3⟩ := id hQa
        go_cut [21] (fun v wx => v = .bool false ∧ Since wa wx)
        case first =>
          (refine wp_named fun wr6 hwr6 => ?_; go_region_held3 (fun w' => (∀ b o, b < wr6.heap.size → w'.cell? ⟨b, o, none⟩ = wr6.cell? ⟨b, o, none⟩) ∧ (∀ b o, b < wr6.heap.size → w'.frozen? ⟨b, o, none⟩ = wr6.frozen? ⟨b, o, none⟩) ∧ (∀ k, k < wr6.heap.size → k < w'.heap.size) ∧ Below wr6.heap.size wr6 w') ((subst hwr6; (repeat (with_reducible (refine since_put ?_ ?_ _); rotate_left; focus (first | (simp; done) | (simp; omega) | omega))); first | with_reducible assumption | (refine since_step (by with_reducible assumption) ?_; first | with_reducible assumption | ((repeat (first | with_reducible (exact Since.refl _) | with_reducible assumption | with_reducible (refine Since.drew ?_) | with_reducible (refine Since.drewN ?_ _) | with_reducible (refine Since.alloc ?_ _) | (with_reducible (refine Since.setCell ?_ ?_ _); rotate_left; focus (first | (simp; done) | (simp; omega) | omega)))); done)) | (refine since_step (Since.refl _) ?_; first | with_reducible assumption | ((repeat (first | with_reducible (exact Since.refl _) | with_reducible assumption | with_reducible (refine Since.drew ?_) | with_reducible (refine Since.drewN ?_ _) | with_reducible (refine Since.alloc ?_ _) | (with_reducible (refine Since.setCell ?_ ?_ _); rotate_left; focus (first | (simp; done) | (simp; omega) | omega)) | (with_reducible (refine Since.trans ?_ (by with_reducible assumption))))); done)))) (first | (go_at_call 21; (with_reducible refine (HRF.out _).mono ?_); rintro e w1 ⟨rfl, hS⟩; have hZ := hS.below.size; (try simp at hZ))); all_goals (rename_i hHeld; have hR6 : Since wr6 _ := hHeld; obtain ⟨hcR6, hfR6, hzR6, hbR6⟩ := hHeld; subst hwr6))
          all_goals go_wp2_with fail
          all_goals go_meet
          all_goals exact ⟨rfl, by (repeat (first | with_reducible (exact Since.refl _) | with_reducible assumption | with_reducible (refine Since.drew ?_) | with_reducible (refine Since.drewN ?_ _) | with_reducible (refine Since.alloc ?_ _) | (with_reducible (refine Since.setCell ?_ ?_ _); rotate_left; focus (first | (simp; done) | (simp; omega) | omega)) | (with_reducible (refine Since.trans ?_ (by with_reducible assumption)))))⟩
        obtain ⟨rfl, hSx⟩ := hcut
        have hPc := hPa.since hSx
        have hTc := hTa.trans hSx
        clear hPa hQa hTa hSx c1 c2 c3 e1 e2 e3
        obtain ⟨c1, c2, c3⟩ := id hPc
        go_wp2_with (go_at_call 22; (with_reducible refine (HGD.out _).mono ?_); rintro e w7 ⟨rfl, hS7⟩; have hT7 := hTc.trans hS7)
        go_ret
        exact ⟨by first | rfl | simp, hT7⟩
      · rw [hg] at hgd
        have hgj := hgi hg
        have u1 : IntKind.i64.wrap (64 * X) = 64 * X := IntWalk.i64_in _ (by omega)
        have u2 : IntKind.i64.wrap (x - 64 * X) = x - 64 * X := IntWalk.i64_in _ (by omega)
        have u3 : IntKind.i64.wrap (64 * Y) = 64 * Y := IntWalk.i64_in _ (by omega)
        have u4 : IntKind.i64.wrap (y - 64 * Y) = y - 64 * Y := IntWalk.i64_in _ (by omega)
        have k1 : decide (-32 ≤ x - 64 * X) = true := by simp; omega
        have k2 : decide (x - 64 * X < 32) = true := by simp; omega
        have k3 : decide (-32 ≤ y - 64 * Y) = true := by simp; omega
        have k4 : decide (y - 64 * Y < 32) = true := by simp; omega
        have HGD := Lib.hid hgd
        clear hof hrf hgd hg hgi hgj h1 h2 hx hy hX hY
        go_enter Try.func4, Try.ntmps4
        go_upto_region 6 with (first | (go_at_call 19; (with_reducible refine (HA.out _).mono ?_); rintro e w1 ⟨rfl, hS1⟩; have hP1 := (HP.out w _ rfl _).since hS1; have hT1 : Since w w1 := (by (repeat (first | with_reducible (exact Since.refl _) | with_reducible assumption | with_reducible (refine Since.drew ?_) | with_reducible (refine Since.drewN ?_ _) | with_reducible (refine Since.alloc ?_ _) | (with_reducible (refine Since.setCell ?_ ?_ _); rotate_left; focus (first | (simp; done) | (simp; omega) | omega)) | (with_reducible (refine Since.trans ?_ (by with_reducible assumption)))))); clear hS1; obtain ⟨c1, c2, c3⟩ := id hP1) | (go_at_call 20; (with_reducible refine (HOF.out _).mono ?_); rintro e w2 ⟨rfl, hS2⟩; have hP2 := hP1.since hS2; have hT2 := hT1.trans hS2; clear hS2 c1 c2 c3 hP1))
        refine wp_named fun wa hwa => ?_
        have hPa : PtAt wa w.heap.size x y := by subst hwa; exact hP2.alloc _
        have hQa : PtAt wa w2.heap.size X Y := by subst hwa; exact HQ.out w2 _ rfl _
        have hTa : Since w wa := by subst hwa; exact hT2.alloc _
        clear hwa hP2 hT2 hT1
        generalize w2.heap.size = b2 at *
        obtain ⟨c1, c2, c3⟩ := id hPa
        obtain ⟨e1, e2, e3⟩ := id hQa
        go_cut [21] (fun v wx => v = .bool false ∧ Since wa wx)
        case first =>
          (refine wp_named fun wr6 hwr6 => ?_; go_region_held3 (fun w' => (∀ b o, b < wr6.heap.size → w'.cell? ⟨b, o, none⟩ = wr6.cell? ⟨b, o, none⟩) ∧ (∀ b o, b < wr6.heap.size → w'.frozen? ⟨b, o, none⟩ = wr6.frozen? ⟨b, o, none⟩) ∧ (∀ k, k < wr6.heap.size → k < w'.heap.size) ∧ Below wr6.heap.size wr6 w') ((subst hwr6; (repeat (with_reducible (refine since_put ?_ ?_ _); rotate_left; focus (first | (simp; done) | (simp; omega) | omega))); first | with_reducible assumption | (refine since_step (by with_reducible assumption) ?_; first | with_reducible assumption | ((repeat (first | with_reducible (exact Since.refl _) | with_reducible assumption | with_reducible (refine Since.drew ?_) | with_reducible (refine Since.drewN ?_ _) | with_reducible (refine Since.alloc ?_ _) | (with_reducible (refine Since.setCell ?_ ?_ _); rotate_left; focus (first | (simp; done) | (simp; omega) | omega)))); done)) | (refine since_step (Since.refl _) ?_; first | with_reducible assumption | ((repeat (first | with_reducible (exact Since.refl _) | with_reducible assumption | with_reducible (refine Since.drew ?_) | with_reducible (refine Since.drewN ?_ _) | with_reducible (refine Since.alloc ?_ _) | (with_reducible (refine Since.setCell ?_ ?_ _); rotate_left; focus (first | (simp; done) | (simp; omega) | omega)) | (with_reducible (refine Since.trans ?_ (by with_reducible assumption))))); done)))) (first | (go_at_call 21; (with_reducible refine (HRF.out _).mono ?_); rintro e w1 ⟨rfl, hS⟩; have hZ := hS.below.size; (try simp at hZ))); all_goals (rename_i hHeld; have hR6 : Since wr6 _ := hHeld; obtain ⟨hcR6, hfR6, hzR6, hbR6⟩ := hHeld; subst hwr6))
          all_goals go_wp2_with fail
          all_goals go_meet
          all_goals exact ⟨rfl, by (repeat (first | with_reducible (exact Since.refl _) | with_reducible assumption | with_reducible (refine Since.drew ?_) | with_reducible (refine Since.drewN ?_ _) | with_reducible (refine Since.alloc ?_ _) | (with_reducible (refine Since.setCell ?_ ?_ _); rotate_left; focus (first | (simp; done) | (simp; omega) | omega)) | (with_reducible (refine Since.trans ?_ (by with_reducible assumption)))))⟩
        obtain ⟨rfl, hSx⟩ := hcut
        have hPc := hPa.since hSx
        have hQc := hQa.since hSx
        have hTc := hTa.trans hSx
        clear hPa hQa hTa hSx c1 c2 c3 e1 e2 e3
        obtain ⟨c1, c2, c3⟩ := id hPc
        obtain ⟨e1, e2, e3⟩ := id hQc
        go_upto_region 10 with (go_at_call 22; (with_reducible refine (HGD.out _).mono ?_); rintro e w7 ⟨rfl, hS7⟩; have hT7 := hTc.trans hS7; have hP7 := hPc.since hS7; have hQ7 := hQc.since hS7; clear hS7 c1 c2 c3 e1 e2 e3)
        obtain ⟨c1, c2, c3⟩ := id hP7
        obtain ⟨e1, e2, e3⟩ := id hQ7
        (refine wp_named fun wr10 hwr10 => ?_; go_region_held3 (fun w' => (∀ b o, b < wr10.heap.size → w'.cell? ⟨b, o, none⟩ = wr10.cell? ⟨b, o, none⟩) ∧ (∀ b o, b < wr10.heap.size → w'.frozen? ⟨b, o, none⟩ = wr10.frozen? ⟨b, o, none⟩) ∧ (∀ k, k < wr10.heap.size → k < w'.heap.size) ∧ Below wr10.heap.size wr10 w') ((subst hwr10; (repeat (with_reducible (refine since_put ?_ ?_ _); rotate_left; focus (first | (simp; done) | (simp; omega) | omega))); first | with_reducible assumption | (refine since_step (by with_reducible assumption) ?_; first | with_reducible assumption | ((repeat (first | with_reducible (exact Since.refl _) | with_reducible assumption | with_reducible (refine Since.drew ?_) | with_reducible (refine Since.drewN ?_ _) | with_reducible (refine Since.alloc ?_ _) | (with_reducible (refine Since.setCell ?_ ?_ _); rotate_left; focus (first | (simp; done) | (simp; omega) | omega)))); done)) | (refine since_step (Since.refl _) ?_; first | with_reducible assumption | ((repeat (first | with_reducible (exact Since.refl _) | with_reducible assumption | with_reducible (refine Since.drew ?_) | with_reducible (refine Since.drewN ?_ _) | with_reducible (refine Since.alloc ?_ _) | (with_reducible (refine Since.setCell ?_ ?_ _); rotate_left; focus (first | (simp; done) | (simp; omega) | omega)) | (with_reducible (refine Since.trans ?_ (by with_reducible assumption))))); done)))) (fail); all_goals (rename_i hHeld; have hR10 : Since wr10 _ := hHeld; obtain ⟨hcR10, hfR10, hzR10, hbR10⟩ := hHeld; subst hwr10))
        all_goals go_wp2_with fail
        all_goals go_ret
        all_goals exact ⟨by first | rfl | simp, hT7.trans (by (repeat (first | with_reducible (exact Since.refl _) | with_reducible assumption | with_reducible (refine Since.drew ?_) | with_reducible (refine Since.drewN ?_ _) | with_reducible (refine Since.alloc ?_ _) | (with_reducible (refine Since.setCell ?_ ?_ _); rotate_left; focus (first | (simp; done) | (simp; omega) | omega)) | (with_reducible (refine Since.trans ?_ (by with_reducible assumption))))))⟩
    · have d1 : decide ((9223372036854775775 : Int) < x) = false := by simp; omega
      have d2 : decide ((9223372036854775775 : Int) < y) = true := by simp; omega
      have HP := Lib.hid (fun w b hb t => pt_new w b hb x y t)
      unfold Pt
      clear h1 h2
      go_enter Try.func4, Try.ntmps4
      go_wp2_with (go_at_call 19; (with_reducible refine (HA.out _).mono ?_); rintro e w1 ⟨rfl, hS1⟩; have hP1 := (HP.out w _ rfl _).since hS1; have hT1 : Since w w1 := (by (repeat (first | with_reducible (exact Since.refl _) | with_reducible assumption | with_reducible (refine Since.drew ?_) | with_reducible (refine Since.drewN ?_ _) | with_reducible (refine Since.alloc ?_ _) | (with_reducible (refine Since.setCell ?_ ?_ _); rotate_left; focus (first | (simp; done) | (simp; omega) | omega)) | (with_reducible (refine Since.trans ?_ (by with_reducible assumption)))))); clear hS1; obtain ⟨c1, c2, c3⟩ := id hP1)
      go_ret
      exact ⟨by first | rfl | simp, hT1⟩
  · have d1 : decide ((9223372036854775775 : Int) < x) = true := by simp; omega
    have HP := Lib.hid (fun w b hb t => pt_new w b hb x y t)
    unfold Pt
    clear h1
    go_enter Try.func4, Try.ntmps4
    go_wp2_with (go_at_call 19; (with_reducible refine (HA.out _).mono ?_); rintro e w1 ⟨rfl, hS1⟩; have hP1 := (HP.out w _ rfl _).since hS1; have hT1 : Since w w1 := (by (repeat (first | with_reducible (exact Since.refl _) | with_reducible assumption | with_reducible (refine Since.drew ?_) | with_reducible (refine Since.drewN ?_ _) | with_reducible (refine Since.alloc ?_ _) | (with_reducible (refine Since.setCell ?_ ?_ _); rotate_left; focus (first | (simp; done) | (simp; omega) | omega)) | (with_reducible (refine Since.trans ?_ (by with_reducible assumption)))))); clear hS1; obtain ⟨c1, c2, c3⟩ := id hP1)
    go_ret
    exact ⟨by first | rfl | simp, hT1⟩
set_option maxRecDepth 100000 in
set_option maxHeartbeats 8000000 in
theorem walk_pixelhits (l : Ln) (hl : l.wf) (x y : Int) (w : World) : Calls Try.prog 5 #[l.v, Pt x y] w fun e w' => e = .returned (.bool true) ∧ Since w w' := by
  have HA := Lib.hid (fun w => alive16 w)
  have hh := fun w => px_hits l hl x y w
  have h15 := fun w => r15_good l w
  have h16 := fun w => rf16_good x y w
  have hrf := fun (h : (goodB l.ax l.ay && goodB l.bx l.bz && pixG x y) = true) w => rf_hits l x y h w
  have hB : hitB l x y = (goodB l.ax l.ay && goodB l.bx l.bz && pixG x y && hitR l.ax l.ay l.bx l.bz x y) := by unfold hitB; rw [hit_same]
  have HN := Lib.hid (fun w b hb t => ln_new w b hb l t)
  have HP := Lib.hid (fun w b hb t => pt_new w b hb x y t)
  generalize hG : (goodB l.ax l.ay && goodB l.bx l.bz) = G at *
  generalize hK : pixG x y = K at *
  generalize hitR l.ax l.ay l.bx l.bz x y = R at *
  unfold Ln.v Pt at *
  rw [hB] at hh
  clear hG hK hB
  have h15 := Lib.hid h15
  cases G
  · have HH := Lib.hid hh
    clear h16 hrf hh
    rw [Bool.false_and, Bool.false_and] at HH
    go_enter Try.func5, Try.ntmps5
    go_wp2_with (first | (go_at_call 19; (with_reducible refine (HA.out _).mono ?_); rintro e w1 ⟨rfl, hS1⟩; have hL1 := ((HN.out w _ rfl _).alloc _).since hS1; have hP1 := (HP.out (w.alloc _) (w.heap.size + 1) (by simp) _).since hS1; have hT1 : Since w w1 := (by (repeat (first | with_reducible (exact Since.refl _) | with_reducible assumption | with_reducible (refine Since.drew ?_) | with_reducible (refine Since.drewN ?_ _) | with_reducible (refine Since.alloc ?_ _) | (with_reducible (refine Since.setCell ?_ ?_ _); rotate_left; focus (first | (simp; done) | (simp; omega) | omega)) | (with_reducible (refine Since.trans ?_ (by with_reducible assumption)))))); clear hS1; obtain ⟨c1, c2, c3⟩ := id hP1; obtain ⟨l1, l2, l3, l4, l5⟩ := id hL1) | (go_at_call 23; (with_reducible refine (HH.out _).mono ?_); rintro e w2 ⟨rfl, hS2⟩; have hP2 := hP1.since hS2; have hL2 := hL1.since hS2; have hT2 := hT1.trans hS2; clear hS2 c1 c2 c3 l1 l2 l3 l4 l5 hP1 hL1 hT1; obtain ⟨c1, c2, c3⟩ := id hP2; obtain ⟨l1, l2, l3, l4, l5⟩ := id hL2) | (go_at_call 24; (with_reducible refine (h15.out _).mono ?_); rintro e w3 ⟨rfl, hS3⟩; have hT3 := hT2.trans hS3))
    go_ret
    exact ⟨by first | rfl | simp, hT3⟩
  · rw [Bool.true_and] at hh
    have h16 := Lib.hid h16
    cases K
    · have HH := Lib.hid hh
      clear hrf hh
      rw [Bool.false_and] at HH
      go_enter Try.func5, Try.ntmps5
      go_wp2_with (first | (go_at_call 19; (with_reducible refine (HA.out _).mono ?_); rintro e w1 ⟨rfl, hS1⟩; have hL1 := ((HN.out w _ rfl _).alloc _).since hS1; have hP1 := (HP.out (w.alloc _) (w.heap.size + 1) (by simp) _).since hS1; have hT1 : Since w w1 := (by (repeat (first | with_reducible (exact Since.refl _) | with_reducible assumption | with_reducible (refine Since.drew ?_) | with_reducible (refine Since.drewN ?_ _) | with_reducible (refine Since.alloc ?_ _) | (with_reducible (refine Since.setCell ?_ ?_ _); rotate_left; focus (first | (simp; done) | (simp; omega) | omega)) | (with_reducible (refine Since.trans ?_ (by with_reducible assumption)))))); clear hS1; obtain ⟨c1, c2, c3⟩ := id hP1; obtain ⟨l1, l2, l3, l4, l5⟩ := id hL1) | (go_at_call 23; (with_reducible refine (HH.out _).mono ?_); rintro e w2 ⟨rfl, hS2⟩; have hP2 := hP1.since hS2; have hL2 := hL1.since hS2; have hT2 := hT1.trans hS2; clear hS2 c1 c2 c3 l1 l2 l3 l4 l5 hP1 hL1 hT1; obtain ⟨c1, c2, c3⟩ := id hP2; obtain ⟨l1, l2, l3, l4, l5⟩ := id hL2) | (go_at_call 24; (with_reducible refine (h15.out _).mono ?_); rintro e w3 ⟨rfl, hS3⟩; have hP3 := hP2.since hS3; have hL3 := hL2.since hS3; have hT3 := hT2.trans hS3; clear hS3 c1 c2 c3 l1 l2 l3 l4 l5 hP2 hL2 hT2; obtain ⟨c1, c2, c3⟩ := id hP3; obtain ⟨l1, l2, l3, l4, l5⟩ := id hL3) | (go_at_call 25; (with_reducible refine (h16.out _).mono ?_); rintro e w4 ⟨rfl, hS4⟩; have hT4 := hT3.trans hS4))
      go_ret
      exact ⟨by first | rfl | simp, hT4⟩
    · have hrf := hrf rfl
      rw [Bool.true_and] at hh
      have HH := Lib.hid hh; have HRF := Lib.hid hrf
      clear hrf hh
      cases R
      all_goals
        go_enter Try.func5, Try.ntmps5
        go_wp2_with (first | (go_at_call 19; (with_reducible refine (HA.out _).mono ?_); rintro e w1 ⟨rfl, hS1⟩; have hL1 := ((HN.out w _ rfl _).alloc _).since hS1; have hP1 := (HP.out (w.alloc _) (w.heap.size + 1) (by simp) _).since hS1; have hT1 : Since w w1 := (by (repeat (first | with_reducible (exact Since.refl _) | with_reducible assumption | with_reducible (refine Since.drew ?_) | with_reducible (refine Since.drewN ?_ _) | with_reducible (refine Since.alloc ?_ _) | (with_reducible (refine Since.setCell ?_ ?_ _); rotate_left; focus (first | (simp; done) | (simp; omega) | omega)) | (with_reducible (refine Since.trans ?_ (by with_reducible assumption)))))); clear hS1; obtain ⟨c1, c2, c3⟩ := id hP1; obtain ⟨l1, l2, l3, l4, l5⟩ := id hL1) | (go_at_call 23; (with_reducible refine (HH.out _).mono ?_); rintro e w2 ⟨rfl, hS2⟩; have hP2 := hP1.since hS2; have hL2 := hL1.since hS2; have hT2 := hT1.trans hS2; clear hS2 c1 c2 c3 l1 l2 l3 l4 l5 hP1 hL1 hT1; obtain ⟨c1, c2, c3⟩ := id hP2; obtain ⟨l1, l2, l3, l4, l5⟩ := id hL2) | (go_at_call 24; (with_reducible refine (h15.out _).mono ?_); rintro e w3 ⟨rfl, hS3⟩; have hP3 := hP2.since hS3; have hL3 := hL2.since hS3; have hT3 := hT2.trans hS3; clear hS3 c1 c2 c3 l1 l2 l3 l4 l5 hP2 hL2 hT2; obtain ⟨c1, c2, c3⟩ := id hP3; obtain ⟨l1, l2, l3, l4, l5⟩ := id hL3) | (go_at_call 25; (with_reducible refine (h16.out _).mono ?_); rintro e w4 ⟨rfl, hS4⟩; have hP4 := hP3.since hS4; have hL4 := hL3.since hS4; have hT4 := hT3.trans hS4; clear hS4 c1 c2 c3 l1 l2 l3 l4 l5 hP3 hL3 hT3; obtain ⟨c1, c2, c3⟩ := id hP4; obtain ⟨l1, l2, l3, l4, l5⟩ := id hL4) | (go_at_call 26; (with_reducible refine (HRF.out _).mono ?_); rintro e w5 ⟨rfl, hS5⟩; have hT5 := hT4.trans hS5))
        go_ret
        exact ⟨by first | rfl | simp, hT5⟩
end Go.Proofs.Ytckochcocflleaa

/-
  A slice of lines that came in, read as a list of lines.
-/
namespace Go.Proofs.Ytckochcocflleaa
open Go.RowKit Go.ChangeShapes Go.WideShapes Go.Deep
set_option linter.unusedVariables false

def numZ : Value → Int
  | .int _ n => n
  | _ => 0
theorem in64_lit {a : Int} (h : (Lit.int .i64 a).wf = true) : In64 a := by
  have h : -9223372036854775808 ≤ a ∧ a ≤ 9223372036854775807 := by simpa [Lit.wf, IntKind.min, IntKind.max, IntKind.signed, IntKind.bits] using h
  unfold In64
  omega
section
variable {H : Type} {enc : TypeId × Value → H} {P : Program} {W : World}
theorem open_ln {t e t0 : TypeId} {r : Reach} {b0 : Nat} {v : Value} {d : DataW H} {ps : List MemPlace} (ht : P.underlying t = some (.slice e)) (ce : P.cellsOf e = 4) (l0 : leafAt P 6 e 0 = some t0) (l1 : leafAt P 6 e 1 = some t0) (l2 : leafAt P 6 e 2 = some t0) (l3 : leafAt P 6 e 3 = some t0) (k0 : P.underlying t0 = some (.int .i64))
    (hval : Value.okWide P W r b0 t v) (h : DataW.Trod enc P W 0 (fun _ => true) true t v d ps) (hlt : ∀ x ∈ ps, x.block < W.heap.size) :
    ∃ (A : Option Addr) (c : Nat) (L : List Ln), v = .slice A L.length c ∧ L.length ≤ maxLen ∧ RdG 4 lnE W W.heap.size A L ∧ (∀ x ∈ L, x.wf) := by
  obtain ⟨A, n, c, V, rfl, hnc, hcm, hr, hall, hz⟩ := open_flat ht ce (by omega) hval h hlt
  have each : ∀ i, i < n → ∀ j, j < 4 → V (i * 4 + j) = .int .i64 (numZ (V (i * 4 + j))) ∧ (Lit.int .i64 (numZ (V (i * 4 + j)))).wf = true := fun i hi j hj => by
    obtain ⟨m, x, hx⟩ := hall i hi
    have hl : leafAt P 6 e j = some t0 := by
      have h : j = 0 ∨ j = 1 ∨ j = 2 ∨ j = 3 := by omega
      rcases h with rfl | rfl | rfl | rfl <;> assumption
    obtain ⟨u0, m0, y0, a1, a2, _⟩ := leaf_at 6 e t0 j hl m _ x hx
    obtain ⟨p, ep, _, wp⟩ := DataW.trod_int k0 a2
    injection ep with ep
    rw [tab_get, if_pos (by omega)] at a1
    injection a1 with a1
    subst ep
    rw [a1]
    exact ⟨rfl, wp⟩
  let F : Nat → Ln := fun i => ⟨numZ (V (i * 4)), numZ (V (i * 4 + 1)), numZ (V (i * 4 + 2)), numZ (V (i * 4 + 3))⟩
  have hlen : ((List.range n).map F).length = n := by simp
  refine ⟨A, c, (List.range n).map F, by rw [hlen], by rw [hlen]; omega, fun hn => ?_, fun x hx => ?_⟩
  · rw [hlen] at hn
    obtain ⟨b, o, rfl, hb, hc⟩ := hr (by omega)
    refine ⟨b, o, rfl, hb, fun j s hj i hi => ?_⟩
    have hjn : j < n := by
      rcases Nat.lt_or_ge j n with h | h
      · exact h
      · rw [List.getElem?_eq_none (by rw [hlen]; exact h)] at hj; cases hj
    rw [List.getElem?_map, List.getElem?_range hjn] at hj
    simp only [Option.map_some, Option.some.injEq] at hj
    subst hj
    rw [Nat.add_assoc, hc (j * 4 + i) (by omega), (each j hjn i hi).1]
    have h : i = 0 ∨ i = 1 ∨ i = 2 ∨ i = 3 := by omega
    rcases h with rfl | rfl | rfl | rfl <;> rfl
  · rw [List.mem_map] at hx
    obtain ⟨i, hi, rfl⟩ := hx
    have hin : i < n := by simpa using hi
    exact ⟨⟨in64_lit (each i hin 0 (by omega)).2, in64_lit (each i hin 1 (by omega)).2⟩, in64_lit (each i hin 2 (by omega)).2, in64_lit (each i hin 3 (by omega)).2⟩
end
end Go.Proofs.Ytckochcocflleaa

/-
  What the second form's premise gives: bounds on lengths.
-/
namespace Go.Proofs.Ytckochcocflleaa
theorem bulk_pos {H : Type} (d : DataW H) : 0 < Rows.uptoBulk d := by
  cases d with
  | lit l => cases l <;> simp [Rows.uptoBulk]
  | _ => simp [Rows.uptoBulk]
theorem bulk_count {H : Type} : ∀ l : List (DataW H), l.length ≤ Rows.uptoBulkAll l
  | [] => by simp [Rows.uptoBulkAll]
  | d :: l => by
    have h1 := bulk_pos d; have h2 := bulk_count l
    simp only [Rows.uptoBulkAll, List.length_cons]; omega
theorem bulk_slice {H : Type} {c : Nat} {d : DataW H} (h : c = 0 ∨ ∃ el sp, d = .slice el sp ∧ el.length + sp.length = c) : c < Rows.uptoBulk d := by
  rcases h with rfl | ⟨el, sp, rfl, rfl⟩
  · exact bulk_pos d
  · have h1 := bulk_count el; have h2 := bulk_count sp
    simp only [Rows.uptoBulk]; omega
theorem bulk_all {H : Type} {l : List (DataW H)} (h : Rows.uptoSmall H (l ++ []) = true) : Rows.uptoBulkAll l ≤ 1048576 := by
  rw [List.append_nil] at h
  exact of_decide_eq_true h
end Go.Proofs.Ytckochcocflleaa
