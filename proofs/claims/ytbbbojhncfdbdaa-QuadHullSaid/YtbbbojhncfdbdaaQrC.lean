/-
  Layer 13: the reference's At (where it answers), walked.
-/
import Derived.Test.YtbbbojhncfdbdaaQrB
import Derived.Test.YtbbbojhncfdbdaaQuG
namespace Go.Proofs.Ytbbbojhncfdbdaa
open Go.RowKit
set_option linter.unusedVariables false

/-- A block holds a piece, and may be written. -/
def SegF (w : World) (b : Nat) (s : Sg) : Prop := SegAt w b s ∧ ∀ j, w.frozen? ⟨b, j, none⟩ = false
theorem SegF.since {w w' : World} {b : Nat} {s : Sg} (h : SegF w b s) (k : Since w w') : SegF w' b s := ⟨h.1.since k, fun j => (k.2.1 _ _ h.1.2.2.2.2.2.2.2).trans (h.2 j)⟩
theorem SegF.alloc {w : World} {b : Nat} {s : Sg} (h : SegF w b s) (o : Obj) : SegF (w.alloc o) b s := h.since ((Since.refl w).alloc o)
theorem segf_new (w : World) (b : Nat) (hb : b = w.heap.size) (s : Sg) (t : TypeId) : SegF (w.alloc (.cells #[.int .i64 s.ax, .int .i64 s.ay, .int .i64 s.cx, .int .i64 s.cy, .int .i64 s.bx, .int .i64 s.bz, .bool s.k] t)) b s := by
  refine ⟨seg_new w b hb s t, fun j => ?_⟩
  subst hb
  rw [frozen?_alloc_cells]
  simp [World.frozen?]
theorem SegAt.zero {w : World} {b : Nat} {s : Sg} (h : SegAt w b s) : SegAt ((w.setCell ⟨b, 2, none⟩ (.int .i64 0)).setCell ⟨b, 3, none⟩ (.int .i64 0)) b ⟨s.ax, s.ay, 0, 0, s.bx, s.bz, s.k⟩ := by
  obtain ⟨h1, h2, h3, h4, h5, h6, h7, h8⟩ := h
  have k : ∀ j, j ≠ 2 → j ≠ 3 → ((w.setCell ⟨b, 2, none⟩ (.int .i64 0)).setCell ⟨b, 3, none⟩ (.int .i64 0)).cell? ⟨b, j, none⟩ = w.cell? ⟨b, j, none⟩ := fun j e2 e3 => by
    rw [cell_set, if_neg (by omega), cell_set, if_neg (by omega)]
  refine ⟨(k _ (by decide) (by decide)).trans h1, (k _ (by decide) (by decide)).trans h2, ?_, ?_, (k _ (by decide) (by decide)).trans h5, (k _ (by decide) (by decide)).trans h6, (k _ (by decide) (by decide)).trans h7, by simpa [World.setCell] using h8⟩
  · rw [cell_set, if_neg (by omega), cell_set, if_pos ⟨rfl, rfl⟩, h3]; rfl
  · rw [cell_set, if_pos ⟨rfl, rfl⟩, cell_set, if_neg (by omega), h4]; rfl

set_option maxHeartbeats 8000000 in
theorem rq_at_ok (s : Sg) (k n : Int) (h : argOK k n = true) (hr : inR s = true) (w : World) :
    Calls Try.prog 36 #[s.v, .int .i64 k, .int .i64 n] w fun e w' => e = .returned (.tuple #[Pt (atX s k n) (atY s k n), .int .i64 0]) ∧ Since w w' := by
  have hg := fun w => rq_good s w
  rw [hr] at hg
  obtain ⟨h1, h2, h3, h4⟩ := arg_parts h
  obtain ⟨⟨a1, a2⟩, ⟨b1, b2⟩, c⟩ := inR_parts hr
  have hc := Lib.hid (fun w => rq_power 2 n (by decide) (by decide) (by omega) (by omega) w)
  have hp := two_pow h1 h2
  have hN := fun w b hb t => segf_new w b hb s t
  unfold atX atY atI
  generalize (2 : Int) ^ n.toNat = p at *
  have w0 : IntKind.i64.wrap (p - k) = p - k := IntWalk.i64_in _ (by omega)
  generalize hl : p - k = l at *
  obtain ⟨ax, ay, cx, cy, bx, bz, kk⟩ := s
  have q1 := sq_in (X := 1024) (show 0 ≤ l by omega) (by omega) (by omega : 0 ≤ p) hp.2
  have q2 := sq_in (X := 1024) h3 (by omega) (by omega : 0 ≤ p) hp.2
  have q3 := sq_in (X := 1024) (show 0 ≤ l by omega) (by omega) (show 0 ≤ l by omega) (by omega)
  have q4 := sq_in (X := 1024) h3 (by omega) h3 (by omega)
  have q5 := sq_in (X := 2048) (show 0 ≤ 2 * k by omega) (by omega) (show 0 ≤ l by omega) (by omega)
  have w1 : IntKind.i64.wrap (l * p) = l * p := IntWalk.i64_in _ (by omega)
  have w2 : IntKind.i64.wrap (k * p) = k * p := IntWalk.i64_in _ (by omega)
  have w3 : IntKind.i64.wrap (l * l) = l * l := IntWalk.i64_in _ (by omega)
  have w4 : IntKind.i64.wrap (k * k) = k * k := IntWalk.i64_in _ (by omega)
  have w5 : IntKind.i64.wrap (2 * k) = 2 * k := IntWalk.i64_in _ (by omega)
  have w6 : IntKind.i64.wrap (2 * k * l) = 2 * k * l := IntWalk.i64_in _ (by omega)
  have HG := Lib.hid hg
  simp only at a1 a2 b1 b2 c
  cases kk with
  | false =>
    have hP := fun w => rq_point ⟨ax, ay, 0, 0, bx, bz, false⟩ (l * p) 0 (k * p) (line_ok a1 b1 (by omega) h3 (by omega) hp.2) (line_ok a2 b2 (by omega) h3 (by omega) hp.2) w
    simp only [ref_line] at hP
    simp only [Bool.false_eq_true, if_false]
    generalize lineI ax bx l k p = X at *
    generalize lineI ay bz l k p = Y at *
    have HP := Lib.hid hP
    have HN := Lib.hid hN
    have hkp : k ≤ p := h4
    clear h hr hg a1 a2 b1 b2 c hP q1 q2 q3 q4 q5 hp h4 hN
    unfold Pt Sg.v at *
    go_enter Try.func36, Try.ntmps36
    go_wp2_with (first | (go_at_call 58; have _t := h1; (with_reducible refine (hc.out _).mono ?_); rintro e w1 ⟨rfl, hS1⟩; have hX1 := ((HN.out w _ rfl _).alloc _).since hS1; have hZ := (zero2_new _ (w.heap.size + 1) (by simp) _).since hS1; have hS : Since w w1 := (by (repeat (first | with_reducible (exact Since.refl _) | with_reducible assumption | with_reducible (refine Since.drew ?_) | with_reducible (refine Since.drewN ?_ _) | with_reducible (refine Since.alloc ?_ _) | (with_reducible (refine Since.setCell ?_ ?_ _); rotate_left; focus (first | (simp; done) | (simp; omega) | omega)) | (with_reducible (refine Since.trans ?_ (by with_reducible assumption)))))); clear hS1 h1; have hX2 := hX1.1; obtain ⟨s1, s2, s3, s4, s5, s6, s7, s8⟩ := hX2) | (go_at_call 59; (with_reducible refine (HG.out _).mono ?_); rintro e w2 ⟨rfl, hS2⟩; have hX3 := hX1.since hS2; have hZ2 := hZ.since hS2; have hS3 := hS.trans hS2; clear hS2 hS hX1 s1 s2 s3 s4 s5 s6 s7 s8 hZ; have tok := True.intro) | (go_at_call 58; have _t := tok; (with_reducible refine (hc.out _).mono ?_); rintro e w3 ⟨rfl, hS4⟩; have hX4 := hX3.since hS4; have hZ3 := hZ2.since hS4; have hS5 := hS3.trans hS4; clear tok hS4 hS3 hX3 hZ2; have hX5 := hX4; obtain ⟨⟨s1, s2, s3, s4, s5, s6, s7, s8⟩, sF⟩ := hX5; have sF2 := sF 2; have sF3 := sF 3; clear sF; have hZ4 := hZ3; obtain ⟨⟨z1, z2, z3⟩, zF⟩ := hZ4; have zF0 := zF 0; have zF1 := zF 1; clear zF))
    refine wp_named fun w4 hw4 => ?_
    have hX6 : SegAt w4 w.heap.size ⟨ax, ay, 0, 0, bx, bz, false⟩ := by subst hw4; exact hX4.1.zero
    have hZ6 : Zero2 w4 (w.heap.size + 1) := by subst hw4; exact (hZ3.far (by omega) _ _).far (by omega) _ _
    have hS6 : Since w w4 := by subst hw4; (repeat (first | with_reducible (exact Since.refl _) | with_reducible assumption | with_reducible (refine Since.drew ?_) | with_reducible (refine Since.drewN ?_ _) | with_reducible (refine Since.alloc ?_ _) | (with_reducible (refine Since.setCell ?_ ?_ _); rotate_left; focus (first | (simp; done) | (simp; omega) | omega)) | (with_reducible (refine Since.trans ?_ (by with_reducible assumption)))))
    clear hw4 hX4 hZ3 hS5 s1 s2 s3 s4 s5 s6 s7 s8 sF2 sF3 z1 z2 z3 zF0 zF1
    obtain ⟨s1, s2, s3, s4, s5, s6, s7, s8⟩ := hX6
    simp only at s1 s2 s3 s4 s5 s6 s7
    obtain ⟨⟨z1, z2, z3⟩, zF⟩ := hZ6
    have zF0 := zF 0
    have zF1 := zF 1
    clear zF
    (refine wp_named fun wr1 hwr1 => ?_; go_region_held3 (fun w' => (∀ b o, b < (w.heap.size + 1) → w'.cell? ⟨b, o, none⟩ = wr1.cell? ⟨b, o, none⟩) ∧ (∀ b o, b < wr1.heap.size → w'.frozen? ⟨b, o, none⟩ = wr1.frozen? ⟨b, o, none⟩) ∧ (∀ k, k < wr1.heap.size → k < w'.heap.size) ∧ Below ((w.heap.size + 1)) wr1 w' ∧ (∀ o, o < 2 → w'.cell? ⟨(w.heap.size + 1), o, none⟩ = some (cellD w' ((w.heap.size + 1)) o))) ((subst hwr1; (repeat with_reducible (refine sr_set ?_ _ _)); first | assumption | (refine sr_step (by first | assumption | omega | (simp; done) | (simp; omega)) (by assumption) ?_; first | assumption | (repeat (first | with_reducible (exact Since.refl _) | with_reducible assumption | with_reducible (refine Since.drew ?_) | with_reducible (refine Since.drewN ?_ _) | with_reducible (refine Since.alloc ?_ _) | (with_reducible (refine Since.setCell ?_ ?_ _); rotate_left; focus (first | (simp; done) | (simp; omega) | omega))))) | (refine sr_step (by first | assumption | omega | (simp; done) | (simp; omega)) (sr_start (fun o ho => by (have ho' : o = 0 ∨ o = 1 := by omega); rcases ho' with rfl | rfl <;> (first | (simp [go_sem]; done) | simp_all))) ?_; first | assumption | (repeat (first | with_reducible (exact Since.refl _) | with_reducible assumption | with_reducible (refine Since.drew ?_) | with_reducible (refine Since.drewN ?_ _) | with_reducible (refine Since.alloc ?_ _) | (with_reducible (refine Since.setCell ?_ ?_ _); rotate_left; focus (first | (simp; done) | (simp; omega) | omega))))))) (first | (go_at_call 58; refine (hc.out _).mono ?_; rintro e w1 ⟨rfl, hS⟩; have hZ := hS.below.size; (try simp at hZ)) | (go_at_call 60; refine (HP.out _).mono ?_; rintro e w1 ⟨rfl, hS⟩; have hZ := hS.below.size; (try simp at hZ))); all_goals (rename_i hHeld; obtain ⟨hcR1, hfR1, hzR1, hbR1, hoR1⟩ := hHeld; have hiR := fun o ho => there_of (hoR1 o ho); (try simp only [there_set] at hiR); clear hoR1; subst hwr1; have hR1 : Since w _ := sr_out hbR1 (by (repeat (first | with_reducible (exact Since.refl _) | with_reducible assumption | with_reducible (refine Since.drew ?_) | with_reducible (refine Since.drewN ?_ _) | with_reducible (refine Since.alloc ?_ _) | (with_reducible (refine Since.setCell ?_ ?_ _); rotate_left; focus (first | (simp; done) | (simp; omega) | omega)) | (with_reducible (refine Since.trans ?_ (by with_reducible assumption)))))) (by first | (simp; done) | (simp; omega) | omega)))
    all_goals go_wp2
    all_goals refine bodyPost_ret (by simp only [results, Try.results36]; go_simp) rfl ⟨rfl, ?_⟩
    all_goals (repeat (first | with_reducible (exact Since.refl _) | with_reducible assumption | with_reducible (refine Since.drew ?_) | with_reducible (refine Since.drewN ?_ _) | with_reducible (refine Since.alloc ?_ _) | (with_reducible (refine Since.setCell ?_ ?_ _); rotate_left; focus (first | (simp; done) | (simp; omega) | omega)) | (with_reducible (refine Since.trans ?_ (by with_reducible assumption)))))
  | true =>
    have c := c rfl
    have hP := fun w => rq_point ⟨ax, ay, cx, cy, bx, bz, true⟩ (l * l) (2 * k * l) (k * k) (curve_ok a1 c.1 b1 (by omega) h3 (by omega)) (curve_ok a2 c.2 b2 (by omega) h3 (by omega)) w
    simp only [ref_curve] at hP
    simp only [if_true]
    generalize curveI ax cx bx l k = X at *
    generalize curveI ay cy bz l k = Y at *
    have HP := Lib.hid hP
    have HN := Lib.hid hN
    have hkp : k ≤ p := h4
    clear h hr hg a1 a2 b1 b2 c hP q1 q2 q3 q4 q5 hp h4 hN
    unfold Pt Sg.v at *
    go_enter Try.func36, Try.ntmps36
    go_wp2_with (first | (go_at_call 58; have _t := h1; (with_reducible refine (hc.out _).mono ?_); rintro e w1 ⟨rfl, hS1⟩; have hX1 := ((HN.out w _ rfl _).alloc _).since hS1; have hZ := (zero2_new _ (w.heap.size + 1) (by simp) _).since hS1; have hS : Since w w1 := (by (repeat (first | with_reducible (exact Since.refl _) | with_reducible assumption | with_reducible (refine Since.drew ?_) | with_reducible (refine Since.drewN ?_ _) | with_reducible (refine Since.alloc ?_ _) | (with_reducible (refine Since.setCell ?_ ?_ _); rotate_left; focus (first | (simp; done) | (simp; omega) | omega)) | (with_reducible (refine Since.trans ?_ (by with_reducible assumption)))))); clear hS1 h1; have hX2 := hX1.1; obtain ⟨s1, s2, s3, s4, s5, s6, s7, s8⟩ := hX2) | (go_at_call 59; (with_reducible refine (HG.out _).mono ?_); rintro e w2 ⟨rfl, hS2⟩; have hX3 := hX1.since hS2; have hZ2 := hZ.since hS2; have hS3 := hS.trans hS2; clear hS2 hS hX1 s1 s2 s3 s4 s5 s6 s7 s8 hZ; have tok := True.intro) | (go_at_call 58; have _t := tok; (with_reducible refine (hc.out _).mono ?_); rintro e w3 ⟨rfl, hS4⟩; have hX4 := hX3.since hS4; have hZ3 := hZ2.since hS4; have hS5 := hS3.trans hS4; clear tok hS4 hS3 hX3 hZ2; have hX5 := hX4; obtain ⟨⟨s1, s2, s3, s4, s5, s6, s7, s8⟩, sF⟩ := hX5; have sF2 := sF 2; have sF3 := sF 3; clear sF; have hZ4 := hZ3; obtain ⟨⟨z1, z2, z3⟩, zF⟩ := hZ4; have zF0 := zF 0; have zF1 := zF 1; clear zF) | (go_at_call 60; (with_reducible refine (HP.out _).mono ?_); rintro e w5 ⟨rfl, hS6⟩; have hZ5 := hZ3.since hS6; have hS7 := hS5.trans hS6; clear hS6 hS5 hX4 hZ3 s1 s2 s3 s4 s5 s6 s7 s8 z1 z2 z3 zF0 zF1; obtain ⟨⟨z1, z2, z3⟩, zF⟩ := hZ5; have zF0 := zF 0; have zF1 := zF 1; clear zF))
    refine bodyPost_ret (by simp only [results, Try.results36]; go_simp) rfl ⟨rfl, ?_⟩
    (repeat (first | with_reducible (exact Since.refl _) | with_reducible assumption | with_reducible (refine Since.drew ?_) | with_reducible (refine Since.drewN ?_ _) | with_reducible (refine Since.alloc ?_ _) | (with_reducible (refine Since.setCell ?_ ?_ _); rotate_left; focus (first | (simp; done) | (simp; omega) | omega)) | (with_reducible (refine Since.trans ?_ (by with_reducible assumption)))))
end Go.Proofs.Ytbbbojhncfdbdaa
