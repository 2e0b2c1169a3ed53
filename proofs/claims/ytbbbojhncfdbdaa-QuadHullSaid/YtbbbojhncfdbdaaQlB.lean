/-
  Layer 13: the law QuadBends, walked.
-/
import Derived.Test.YtbbbojhncfdbdaaQlA
namespace Go.Proofs.Ytbbbojhncfdbdaa
open Go.RowKit
set_option linter.unusedVariables false

set_option maxRecDepth 100000 in
set_option maxHeartbeats 8000000 in
theorem quadbends_of (s : Sg) (x0 y0 x1 y1 B N : Int) (hN9 : N ≤ 9) (w : World)
    (hA : ∀ w, Calls Try.prog 40 #[s.v] w fun e w' => e = .returned (.tuple #[Pt x0 y0, Pt x1 y1]) ∧ Since w w')
    (hB : ∀ w, Calls Try.prog 41 #[s.v] w fun e w' => e = .returned (.tuple #[Pt x0 y0, Pt x1 y1]) ∧ Since w w')
    (h1 : ∀ w, Calls Try.prog 42 #[s.v] w fun e w' => e = .returned (.int .i64 B) ∧ Since w w')
    (h2 : ∀ w, Calls Try.prog 43 #[s.v] w fun e w' => e = .returned (.int .i64 B) ∧ Since w w')
    (h3 : ∀ w, Calls Try.prog 44 #[s.v] w fun e w' => e = .returned (.int .i64 N) ∧ Since w w')
    (h4 : ∀ w, Calls Try.prog 45 #[s.v] w fun e w' => e = .returned (.int .i64 N) ∧ Since w w') :
    Calls Try.prog 11 #[s.v] w fun e w' => e = .returned (.bool true) ∧ Since w w' := by
  have hN := fun w b hb t => seg_new w b hb s t
  unfold Sg.v Pt at *
  have HN := Lib.hid hN
  have HA := Lib.hid hA
  have HB := Lib.hid hB
  have H1 := Lib.hid h1
  have H2 := Lib.hid h2
  have H3 := Lib.hid h3
  have H4 := Lib.hid h4
  have d9 : decide (N ≤ 9) = true := decide_eq_true hN9
  clear hN hA hB h1 h2 h3 h4
  go_enter Try.func11, Try.ntmps11
  go_wp2_with (first | (go_at_call 33; (with_reducible refine Calls.mono (alive13 _) ?_); rintro e w1 ⟨rfl, hS1⟩; have ksa := (HN.out w _ rfl _).since hS1; have kT0 : Since w w1 := (by (repeat (first | with_reducible (exact Since.refl _) | with_reducible assumption | with_reducible (refine Since.drew ?_) | with_reducible (refine Since.drewN ?_ _) | with_reducible (refine Since.alloc ?_ _) | (with_reducible (refine Since.setCell ?_ ?_ _); rotate_left; focus (first | (simp; done) | (simp; omega) | omega)) | (with_reducible (refine Since.trans ?_ (by with_reducible assumption)))))); have kT := kT0; have sa := ksa; clear ksa; have hT := kT; clear kT; have saz := sa; obtain ⟨sa_1, sa_2, sa_3, sa_4, sa_5, sa_6, sa_7, sa_8⟩ := saz; (try simp only at sa_1 sa_2 sa_3 sa_4 sa_5 sa_6 sa_7)) | (go_at_call 40; (with_reducible refine Calls.mono (HA.out _) ?_); rintro e w2 ⟨rfl, hS2⟩; have ksa := ((sa.since hS2).alloc (.cells #[.int .i64 x0, .int .i64 y0] 23)).alloc (.cells #[.int .i64 x1, .int .i64 y1] 23); have kT := ((hT.trans hS2).alloc (.cells #[.int .i64 x0, .int .i64 y0] 23)).alloc (.cells #[.int .i64 x1, .int .i64 y1] 23); clear hS2 hT sa_1 sa_2 sa_3 sa_4 sa_5 sa_6 sa_7 sa_8 sa; have kpa := (pt_new w2 _ rfl x0 y0 23).alloc (.cells #[.int .i64 x1, .int .i64 y1] 23); have kqa := pt_new (w2.alloc (.cells #[.int .i64 x0, .int .i64 y0] 23)) (w2.heap.size + 1) (by simp) x1 y1 23; have sa := ksa; clear ksa; have pa := kpa; clear kpa; have qa := kqa; clear kqa; have hT := kT; clear kT; have saz := sa; obtain ⟨sa_1, sa_2, sa_3, sa_4, sa_5, sa_6, sa_7, sa_8⟩ := saz; (try simp only at sa_1 sa_2 sa_3 sa_4 sa_5 sa_6 sa_7); have paz := pa; obtain ⟨pa_1, pa_2, pa_3⟩ := paz; have qaz := qa; obtain ⟨qa_1, qa_2, qa_3⟩ := qaz) | (go_at_call 41; (with_reducible refine Calls.mono (HB.out _) ?_); rintro e w3 ⟨rfl, hS3⟩; have ksa := ((sa.since hS3).alloc (.cells #[.int .i64 x0, .int .i64 y0] 23)).alloc (.cells #[.int .i64 x1, .int .i64 y1] 23); have kpa := ((pa.since hS3).alloc (.cells #[.int .i64 x0, .int .i64 y0] 23)).alloc (.cells #[.int .i64 x1, .int .i64 y1] 23); have kqa := ((qa.since hS3).alloc (.cells #[.int .i64 x0, .int .i64 y0] 23)).alloc (.cells #[.int .i64 x1, .int .i64 y1] 23); have kT := ((hT.trans hS3).alloc (.cells #[.int .i64 x0, .int .i64 y0] 23)).alloc (.cells #[.int .i64 x1, .int .i64 y1] 23); clear hS3 hT sa_1 sa_2 sa_3 sa_4 sa_5 sa_6 sa_7 sa_8 sa pa_1 pa_2 pa_3 pa qa_1 qa_2 qa_3 qa; have kpb := (pt_new w3 _ rfl x0 y0 23).alloc (.cells #[.int .i64 x1, .int .i64 y1] 23); have kqb := pt_new (w3.alloc (.cells #[.int .i64 x0, .int .i64 y0] 23)) (w3.heap.size + 1) (by simp) x1 y1 23; have sa := ksa; clear ksa; have pa := kpa; clear kpa; have qa := kqa; clear kqa; have pb := kpb; clear kpb; have qb := kqb; clear kqb; have hT := kT; clear kT; have saz := sa; obtain ⟨sa_1, sa_2, sa_3, sa_4, sa_5, sa_6, sa_7, sa_8⟩ := saz; (try simp only at sa_1 sa_2 sa_3 sa_4 sa_5 sa_6 sa_7); have paz := pa; obtain ⟨pa_1, pa_2, pa_3⟩ := paz; have qaz := qa; obtain ⟨qa_1, qa_2, qa_3⟩ := qaz; have pbz := pb; obtain ⟨pb_1, pb_2, pb_3⟩ := pbz; have qbz := qb; obtain ⟨qb_1, qb_2, qb_3⟩ := qbz))
  refine wp_named fun w9 hw9 => ?_
  have kT : Since w w9 := by subst hw9; exact hT
  have ksa := sa; have kpa := pa; have kqa := qa; have kpb := pb; have kqb := qb
  rw [← hw9] at ksa kpa kqa kpb kqb
  clear hw9 hT sa pa qa pb qb sa_1 sa_2 sa_3 sa_4 sa_5 sa_6 sa_7 sa_8 pa_1 pa_2 pa_3 qa_1 qa_2 qa_3 pb_1 pb_2 pb_3 qb_1 qb_2 qb_3
  obtain ⟨s1, s2, s3, s4, s5, s6, s7, s8⟩ := ksa
  obtain ⟨a1, a2, a3⟩ := kpa
  obtain ⟨b1, b2, b3⟩ := kqa
  obtain ⟨c1, c2, c3⟩ := kpb
  obtain ⟨e1, e2, e3⟩ := kqb
  (refine wp_named fun wr1 hwr1 => ?_; go_region_held3 (fun w' => (∀ b o, b < wr1.heap.size → w'.cell? ⟨b, o, none⟩ = wr1.cell? ⟨b, o, none⟩) ∧ (∀ b o, b < wr1.heap.size → w'.frozen? ⟨b, o, none⟩ = wr1.frozen? ⟨b, o, none⟩) ∧ (∀ k, k < wr1.heap.size → k < w'.heap.size) ∧ Below wr1.heap.size wr1 w') ((subst hwr1; (repeat (with_reducible (refine since_put ?_ ?_ _); rotate_left; focus (first | (simp; done) | (simp; omega) | omega))); first | assumption | (refine since_step (by assumption) ?_; first | assumption | ((repeat (first | with_reducible (exact Since.refl _) | with_reducible assumption | with_reducible (refine Since.drew ?_) | with_reducible (refine Since.drewN ?_ _) | with_reducible (refine Since.alloc ?_ _) | (with_reducible (refine Since.setCell ?_ ?_ _); rotate_left; focus (first | (simp; done) | (simp; omega) | omega)))); done)) | (refine since_step (Since.refl _) ?_; first | assumption | ((repeat (first | with_reducible (exact Since.refl _) | with_reducible assumption | with_reducible (refine Since.drew ?_) | with_reducible (refine Since.drewN ?_ _) | with_reducible (refine Since.alloc ?_ _) | (with_reducible (refine Since.setCell ?_ ?_ _); rotate_left; focus (first | (simp; done) | (simp; omega) | omega)) | (with_reducible (refine Since.trans ?_ (by with_reducible assumption))))); done)))) (first | (go_at_call 42; (with_reducible refine (H1.out _).mono ?_); rintro e w1 ⟨rfl, hS⟩; have hZ := hS.below.size; (try simp at hZ)) | (go_at_call 43; (with_reducible refine (H2.out _).mono ?_); rintro e w1 ⟨rfl, hS⟩; have hZ := hS.below.size; (try simp at hZ)) | (go_at_call 44; (with_reducible refine (H3.out _).mono ?_); rintro e w1 ⟨rfl, hS⟩; have hZ := hS.below.size; (try simp at hZ)) | (go_at_call 45; (with_reducible refine (H4.out _).mono ?_); rintro e w1 ⟨rfl, hS⟩; have hZ := hS.below.size; (try simp at hZ))); all_goals (rename_i hHeld; have hR1 : Since wr1 _ := hHeld; obtain ⟨hcR1, hfR1, hzR1, hbR1⟩ := hHeld; subst hwr1))
  all_goals go_wp2
  all_goals go_ret
  all_goals exact ⟨by first | rfl | simp, by (repeat (first | with_reducible (exact Since.refl _) | with_reducible assumption | with_reducible (refine Since.drew ?_) | with_reducible (refine Since.drewN ?_ _) | with_reducible (refine Since.alloc ?_ _) | (with_reducible (refine Since.setCell ?_ ?_ _); rotate_left; focus (first | (simp; done) | (simp; omega) | omega)) | (with_reducible (refine Since.trans ?_ (by with_reducible assumption)))))⟩
theorem walk_quadbends (s : Sg) (hs : s.wf) (w : World) :
    Calls Try.prog 11 #[s.v] w fun e w' => e = .returned (.bool true) ∧ Since w w' :=
  quadbends_of s _ _ _ _ _ _ (by have := steps_le (bendI s); omega) w (qu_box s) (rq_box s) (qu_bend s hs) (rq_bend s) (qu_steps s hs) (rq_steps s)
end Go.Proofs.Ytbbbojhncfdbdaa
