/-
  Layer 13: the reference's Round, walked.
-/
import Derived.Test.YtbbbojhncfdbdaaQrC
import Derived.Test.YtbbbojhncfdbdaaQrD
namespace Go.Proofs.Ytbbbojhncfdbdaa
open Go.RowKit
set_option linter.unusedVariables false

theorem rq_at_no (s : Sg) (k n : Int) (h : atOK s k n = false) (w : World) :
    Calls Try.prog 36 #[s.v, .int .i64 k, .int .i64 n] w fun e w' => e = .returned (.tuple #[Pt 0 0, .int .i64 (atE s k n)]) ∧ Since w w' := by
  unfold atOK at h
  unfold atE
  cases h1 : argOK k n with
  | false => simpa using rq_at_bad s k n h1 w
  | true =>
    rw [h1] at h
    simp only [Bool.true_and] at h
    simpa [h] using rq_at_far s k n h1 h w
theorem rq_at_yes (s : Sg) (k n : Int) (h : atOK s k n = true) (w : World) :
    Calls Try.prog 36 #[s.v, .int .i64 k, .int .i64 n] w fun e w' => e = .returned (.tuple #[Pt (atX s k n) (atY s k n), .int .i64 0]) ∧ Since w w' := by
  unfold atOK at h
  obtain ⟨h1, h2⟩ := Bool.and_eq_true_iff.1 h
  exact rq_at_ok s k n h1 h2 w
theorem half_div (v q : Int) (hq : q = 1 ∨ ∃ h, 0 < h ∧ q = 2 * h) : (2 * v + q) / (2 * q) = (v + q / 2) / q := by
  rcases hq with rfl | ⟨h, h0, rfl⟩
  · omega
  · rw [show 2 * v + 2 * h = 2 * (v + h) by omega, Int.mul_ediv_mul_of_pos _ _ (by decide : (0 : Int) < 2), show 2 * h / 2 = h by omega]
theorem pow_half {n : Int} (h : 0 ≤ n) (h' : n ≤ 10) : (2 : Int) ^ (2 * n).toNat = 1 ∨ ∃ h, 0 < h ∧ (2 : Int) ^ (2 * n).toNat = 2 * h := by
  have h0 : (2 * n).toNat = 2 * n.toNat := by omega
  rw [h0]
  cases e : n.toNat with
  | zero => left; rfl
  | succ m =>
    right
    refine ⟨2 ^ (2 * m + 1), Int.pow_pos (by decide), ?_⟩
    rw [show 2 * (m + 1) = (2 * m + 1) + 1 by omega, Int.pow_succ, Int.mul_comm]

set_option maxHeartbeats 8000000 in
theorem rq_round_no (s : Sg) (k n : Int) (h : atOK s k n = false) (w : World) :
    Calls Try.prog 37 #[s.v, .int .i64 k, .int .i64 n] w fun e w' => e = .returned (.tuple #[Pt 0 0, .int .i64 (atE s k n)]) ∧ Since w w' := by
  have hc := fun w => rq_at_no s k n h w
  have he : (atE s k n == 0) = false := by rcases atE_no h with e | e <;> rw [e] <;> rfl
  generalize atE s k n = E at *
  unfold Pt Sg.v at *
  have HC := Lib.hid hc
  clear hc h
  go_enter Try.func37, Try.ntmps37
  go_wp2_with (go_at_call 36; (with_reducible refine (HC.out _).mono ?_); rintro e w1 ⟨rfl, hS1⟩; have hZ := (zero2_new _ (w.heap.size + 1) (by simp) _).since hS1; have hS : Since w w1 := (by (repeat (first | with_reducible (exact Since.refl _) | with_reducible assumption | with_reducible (refine Since.drew ?_) | with_reducible (refine Since.drewN ?_ _) | with_reducible (refine Since.alloc ?_ _) | (with_reducible (refine Since.setCell ?_ ?_ _); rotate_left; focus (first | (simp; done) | (simp; omega) | omega)) | (with_reducible (refine Since.trans ?_ (by with_reducible assumption)))))); clear hS1; obtain ⟨⟨z1, z2, z3⟩, zF⟩ := hZ; have zF0 := zF 0; have zF1 := zF 1; clear zF)
  refine bodyPost_ret (by simp only [results, Try.results37]; go_simp) rfl ⟨rfl, ?_⟩
  (repeat (first | with_reducible (exact Since.refl _) | with_reducible assumption | with_reducible (refine Since.drew ?_) | with_reducible (refine Since.drewN ?_ _) | with_reducible (refine Since.alloc ?_ _) | (with_reducible (refine Since.setCell ?_ ?_ _); rotate_left; focus (first | (simp; done) | (simp; omega) | omega)) | (with_reducible (refine Since.trans ?_ (by with_reducible assumption)))))
set_option maxHeartbeats 8000000 in
theorem rq_round_yes (s : Sg) (k n : Int) (h : atOK s k n = true) (w : World) :
    Calls Try.prog 37 #[s.v, .int .i64 k, .int .i64 n] w fun e w' => e = .returned (.tuple #[Pt (rndI (atX s k n) n) (rndI (atY s k n) n), .int .i64 0]) ∧ Since w w' := by
  have hc := fun w => rq_at_yes s k n h w
  have hin := at_in h
  unfold atOK at h
  obtain ⟨ho, hr⟩ := Bool.and_eq_true_iff.1 h
  obtain ⟨h1, h2, _, _⟩ := arg_parts ho
  have hp := four_pow h1 h2
  have hh := pow_half h1 h2
  have hw := fun w => rq_power 4 n (by decide) (by decide) h1 h2 w
  rw [four_eq h1] at hw
  generalize atX s k n = X at *
  generalize atY s k n = Y at *
  unfold rndI
  generalize (2 : Int) ^ (2 * n).toNat = q at *
  rw [← half_div X q hh, ← half_div Y q hh]
  have hd1 := fun w => rq_down (2 * X + q) (2 * q) (by omega) (by omega) (by omega) w
  have hd2 := fun w => rq_down (2 * Y + q) (2 * q) (by omega) (by omega) (by omega) w
  have w1 : IntKind.i64.wrap (2 * q) = 2 * q := IntWalk.i64_in _ (by omega)
  have w2 : IntKind.i64.wrap (2 * X) = 2 * X := IntWalk.i64_in _ (by omega)
  have w3 : IntKind.i64.wrap (2 * Y) = 2 * Y := IntWalk.i64_in _ (by omega)
  have w4 : IntKind.i64.wrap (2 * X + q) = 2 * X + q := IntWalk.i64_in _ (by omega)
  have w5 : IntKind.i64.wrap (2 * Y + q) = 2 * Y + q := IntWalk.i64_in _ (by omega)
  generalize (2 * X + q) / (2 * q) = U at *
  generalize (2 * Y + q) / (2 * q) = V at *
  unfold Pt Sg.v at *
  have HC := Lib.hid hc
  have HW := Lib.hid hw
  have HD1 := Lib.hid hd1
  have HD2 := Lib.hid hd2
  clear hc h hin ho hr hp hw hd1 hd2 hh h1 h2
  go_enter Try.func37, Try.ntmps37
  go_wp2_with (first | (go_at_call 36; (with_reducible refine (HC.out _).mono ?_); rintro e w1 ⟨rfl, hS1⟩; have hZ0 := (zero2_new _ (w.heap.size + 1) (by simp) _).since hS1; have h12 := hZ0.1.2.2; have hZ1 := hZ0.alloc (.cells #[.int .i64 X, .int .i64 Y] 23); have hP1 := pt_new w1 _ rfl X Y 23; have hT1 : Since w (w1.alloc (.cells #[.int .i64 X, .int .i64 Y] 23)) := (by (repeat (first | with_reducible (exact Since.refl _) | with_reducible assumption | with_reducible (refine Since.drew ?_) | with_reducible (refine Since.drewN ?_ _) | with_reducible (refine Since.alloc ?_ _) | (with_reducible (refine Since.setCell ?_ ?_ _); rotate_left; focus (first | (simp; done) | (simp; omega) | omega)) | (with_reducible (refine Since.trans ?_ (by with_reducible assumption)))))); clear hS1 hZ0) | (go_at_call 58; (with_reducible refine (HW.out _).mono ?_); rintro e w2 ⟨rfl, hS2⟩; have hZ := hZ1.since hS2; have hP := hP1.since hS2; have hT := hT1.trans hS2; clear hZ1 hT1 hS2 hP1; have hZZ := hZ; obtain ⟨⟨z1, z2, z3⟩, zF⟩ := hZZ; have zF0 := zF 0; have zF1 := zF 1; clear zF; have hPP := hP; obtain ⟨p1, p2, p3⟩ := hPP))
  go_region_held3 (fun w' => w'.cell? ⟨w1.heap.size, 0, none⟩ = some (.int .i64 X) ∧ w'.cell? ⟨w1.heap.size, 1, none⟩ = some (.int .i64 Y)) ((refine ⟨?_, ?_⟩ <;> (first | assumption | (rw [cell_set, if_neg (by omega), cell_set, if_neg (by omega)]; assumption)))) ((first | (go_at_call 58; (with_reducible refine (HW.out _).mono ?_); rintro e wk ⟨rfl, hSk⟩; have hZk : Zero2 wk (w.heap.size + 1) := (by refine Zero2.since ?_ hSk; exact hZ); have hTk : Since w wk := (by (repeat (first | with_reducible (exact Since.refl _) | with_reducible assumption | with_reducible (refine Since.drew ?_) | with_reducible (refine Since.drewN ?_ _) | with_reducible (refine Since.alloc ?_ _) | (with_reducible (refine Since.setCell ?_ ?_ _); rotate_left; focus (first | (simp; done) | (simp; omega) | omega)) | (with_reducible (refine Since.trans ?_ (by with_reducible assumption)))))); have hPk : PtAt wk w1.heap.size X Y := (by refine PtAt.since ?_ hSk; exact hP); clear hZ hT hP hSk z1 z2 z3 zF0 zF1 p1 p2 p3; have hZ := hZk; have hT := hTk; have hP := hPk; clear hZk hTk hPk; have hZZ := hZ; obtain ⟨⟨z1, z2, z3⟩, zF⟩ := hZZ; have zF0 := zF 0; have zF1 := zF 1; clear zF; have hPP := hP; obtain ⟨p1, p2, p3⟩ := hPP) | (go_at_call 61; (with_reducible refine (HD1.out _).mono ?_); rintro e wk ⟨rfl, hSk⟩; have hZk : Zero2 wk (w.heap.size + 1) := (by refine Zero2.since ?_ hSk; exact hZ); have hTk : Since w wk := (by (repeat (first | with_reducible (exact Since.refl _) | with_reducible assumption | with_reducible (refine Since.drew ?_) | with_reducible (refine Since.drewN ?_ _) | with_reducible (refine Since.alloc ?_ _) | (with_reducible (refine Since.setCell ?_ ?_ _); rotate_left; focus (first | (simp; done) | (simp; omega) | omega)) | (with_reducible (refine Since.trans ?_ (by with_reducible assumption)))))); have hPk : PtAt wk w1.heap.size X Y := (by refine PtAt.since ?_ hSk; exact hP); clear hZ hT hP hSk z1 z2 z3 zF0 zF1 p1 p2 p3; have hZ := hZk; have hT := hTk; have hP := hPk; clear hZk hTk hPk; have hZZ := hZ; obtain ⟨⟨z1, z2, z3⟩, zF⟩ := hZZ; have zF0 := zF 0; have zF1 := zF 1; clear zF; have hPP := hP; obtain ⟨p1, p2, p3⟩ := hPP) | (go_at_call 61; (with_reducible refine (HD2.out _).mono ?_); rintro e wk ⟨rfl, hSk⟩; have hZk : Zero2 wk (w.heap.size + 1) := (by refine Zero2.since ?_ hSk; exact hZ); have hTk : Since w wk := (by (repeat (first | with_reducible (exact Since.refl _) | with_reducible assumption | with_reducible (refine Since.drew ?_) | with_reducible (refine Since.drewN ?_ _) | with_reducible (refine Since.alloc ?_ _) | (with_reducible (refine Since.setCell ?_ ?_ _); rotate_left; focus (first | (simp; done) | (simp; omega) | omega)) | (with_reducible (refine Since.trans ?_ (by with_reducible assumption)))))); have hPk : PtAt wk w1.heap.size X Y := (by refine PtAt.since ?_ hSk; exact hP); clear hZ hT hP hSk z1 z2 z3 zF0 zF1 p1 p2 p3; have hZ := hZk; have hT := hTk; have hP := hPk; clear hZk hTk hPk; have hZZ := hZ; obtain ⟨⟨z1, z2, z3⟩, zF⟩ := hZZ; have zF0 := zF 0; have zF1 := zF 1; clear zF; have hPP := hP; obtain ⟨p1, p2, p3⟩ := hPP)))
  all_goals go_wp2
  all_goals refine bodyPost_ret (by simp only [results, Try.results37]; go_simp) rfl ⟨rfl, ?_⟩
  all_goals (repeat (first | with_reducible (exact Since.refl _) | with_reducible assumption | with_reducible (refine Since.drew ?_) | with_reducible (refine Since.drewN ?_ _) | with_reducible (refine Since.alloc ?_ _) | (with_reducible (refine Since.setCell ?_ ?_ _); rotate_left; focus (first | (simp; done) | (simp; omega) | omega)) | (with_reducible (refine Since.trans ?_ (by with_reducible assumption)))))
end Go.Proofs.Ytbbbojhncfdbdaa
