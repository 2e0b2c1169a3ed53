/-
  Layer 22: 'Along', 'Normal', the document's 'Along', walked.
-/
import Derived.Test.YtckochcocflleaaArF
import Derived.Test.YtckochcocflleaaCrA
namespace Go.Proofs.Ytckochcocflleaa
open Go.RowKit
set_option linter.unusedVariables false

theorem way_lo {x y : Int} : wayB x y = (decide (hi2 x y ≤ 8388608) && decide (-8388608 ≤ lo2 x y)) := by
  unfold wayB hi2 lo2
  rw [Bool.eq_iff_iff]
  simp only [Bool.and_eq_true, decide_eq_true_eq]
  split <;> split <;> omega
theorem prow2 (w : World) (b : Nat) (hb : b = w.heap.size) (t : TypeId) (x y : Int) : Row (w.alloc (.cells #[.int .i64 x, .int .i64 y] t)) b 2 (Pf x y) := prow w b hb t x y
set_option maxRecDepth 100000 in
set_option maxHeartbeats 8000000 in
theorem ar_along_no (x y r : Int) (h : alE x y r ≠ 0) (w : World) : Calls Try.prog 32 #[Pt x y, .int .i64 r] w fun e w' => e = .returned (.tuple #[Pt 0 0, .int .i64 (alE x y r)]) ∧ Since w w' := by
  have hL := fun w => ar_length r w
  have hE := fun w => eq_pt w x y 0 0
  have hmin := min2_run
  have hmax := max2_run
  have hw := way_lo (x := x) (y := y)
  unfold Pt at *
  rcases alE_cases x y r with ⟨e, h1⟩ | ⟨e, h1, rfl, rfl⟩ | ⟨e, h1, hn, h2⟩ | ⟨e, h1, hn, h2⟩
  · rw [e]; rw [h1] at hL
    clear h e h1 hw
    go_enter Try.func32, Try.ntmps32
    go_wp2_with (go_at_call 72; (with_reducible refine (hL _).mono ?_); rintro e w1 ⟨rfl, hS1⟩; have hP1 := (prow2 _ (w.heap.size + 1) (by simp) _ 0 0).since hS1; have hS : Since w w1 := (by (repeat (first | with_reducible (exact Since.refl _) | with_reducible assumption | with_reducible (refine Since.drew ?_) | with_reducible (refine Since.drewN ?_ _) | with_reducible (refine Since.alloc ?_ _) | (with_reducible (refine Since.setCell ?_ ?_ _); rotate_left; focus (first | (simp; done) | (simp; omega) | omega)) | (with_reducible (refine Since.trans ?_ (by with_reducible assumption)))))); obtain ⟨c1, c2, c3⟩ := pcells hP1; have cF := hP1.2.1)
    refine bodyPost_ret (by simp only [results, Try.results32]; go_simp) rfl ⟨rfl, ?_⟩
    (repeat (first | with_reducible (exact Since.refl _) | with_reducible assumption | with_reducible (refine Since.drew ?_) | with_reducible (refine Since.drewN ?_ _) | with_reducible (refine Since.alloc ?_ _) | (with_reducible (refine Since.setCell ?_ ?_ _); rotate_left; focus (first | (simp; done) | (simp; omega) | omega)) | (with_reducible (refine Since.trans ?_ (by with_reducible assumption)))))
  · rw [e]; rw [h1] at hL
    clear h e h1 hw
    go_enter Try.func32, Try.ntmps32
    go_wp2_with (go_at_call 72; (with_reducible refine (hL _).mono ?_); rintro e w1 ⟨rfl, hS1⟩; have hP1 := (prow2 _ (w.heap.size + 1) (by simp) _ 0 0).since hS1; have hQ1 := ((prow2 w _ rfl _ 0 0).alloc _).since hS1; have hS : Since w w1 := (by (repeat (first | with_reducible (exact Since.refl _) | with_reducible assumption | with_reducible (refine Since.drew ?_) | with_reducible (refine Since.drewN ?_ _) | with_reducible (refine Since.alloc ?_ _) | (with_reducible (refine Since.setCell ?_ ?_ _); rotate_left; focus (first | (simp; done) | (simp; omega) | omega)) | (with_reducible (refine Since.trans ?_ (by with_reducible assumption)))))); obtain ⟨c1, c2, c3⟩ := pcells hP1; obtain ⟨d1, d2, d3⟩ := pcells hQ1; have cF := hP1.2.1)
    refine bodyPost_ret (by simp only [results, Try.results32]; go_simp) rfl ⟨rfl, ?_⟩
    (repeat (first | with_reducible (exact Since.refl _) | with_reducible assumption | with_reducible (refine Since.drew ?_) | with_reducible (refine Since.drewN ?_ _) | with_reducible (refine Since.alloc ?_ _) | (with_reducible (refine Since.setCell ?_ ?_ _); rotate_left; focus (first | (simp; done) | (simp; omega) | omega)) | (with_reducible (refine Since.trans ?_ (by with_reducible assumption)))))
  · rw [e]; rw [h1] at hL; rw [h2] at hw
    have q1 : (x == 0 && y == 0) = false := by
      by_cases hx : x = 0 <;> by_cases hy : y = 0
      · exact absurd ⟨hx, hy⟩ hn
      all_goals simp [hx, hy]
    rw [q1] at hE
    clear hn h e h1 h2
    by_cases hA : hi2 x y ≤ 8388608
    · by_cases hB : -8388608 ≤ lo2 x y
      · simp [hA, hB] at hw
      · have d1 : decide ((8388608 : Int) < hi2 x y) = false := by simp; omega
        have d2 : decide (lo2 x y < (-8388608 : Int)) = true := by simp; omega
        clear hw hA hB
        go_enter Try.func32, Try.ntmps32
        go_wp2_with (go_at_call 72; (with_reducible refine (hL _).mono ?_); rintro e w1 ⟨rfl, hS1⟩; have hP1 := (prow2 _ (w.heap.size + 1) (by simp) _ 0 0).since hS1; have hQ1 := ((prow2 w _ rfl _ x y).alloc _).since hS1; have hS : Since w w1 := (by (repeat (first | with_reducible (exact Since.refl _) | with_reducible assumption | with_reducible (refine Since.drew ?_) | with_reducible (refine Since.drewN ?_ _) | with_reducible (refine Since.alloc ?_ _) | (with_reducible (refine Since.setCell ?_ ?_ _); rotate_left; focus (first | (simp; done) | (simp; omega) | omega)) | (with_reducible (refine Since.trans ?_ (by with_reducible assumption)))))); obtain ⟨c1, c2, c3⟩ := pcells hP1; obtain ⟨d1, d2, d3⟩ := pcells hQ1; have cF := hP1.2.1)
        refine bodyPost_ret (by simp only [results, Try.results32]; go_simp) rfl ⟨rfl, ?_⟩
        (repeat (first | with_reducible (exact Since.refl _) | with_reducible assumption | with_reducible (refine Since.drew ?_) | with_reducible (refine Since.drewN ?_ _) | with_reducible (refine Since.alloc ?_ _) | (with_reducible (refine Since.setCell ?_ ?_ _); rotate_left; focus (first | (simp; done) | (simp; omega) | omega)) | (with_reducible (refine Since.trans ?_ (by with_reducible assumption)))))
    · have d1 : decide ((8388608 : Int) < hi2 x y) = true := by simp; omega
      clear hw hA
      go_enter Try.func32, Try.ntmps32
      go_wp2_with (go_at_call 72; (with_reducible refine (hL _).mono ?_); rintro e w1 ⟨rfl, hS1⟩; have hP1 := (prow2 _ (w.heap.size + 1) (by simp) _ 0 0).since hS1; have hQ1 := ((prow2 w _ rfl _ x y).alloc _).since hS1; have hS : Since w w1 := (by (repeat (first | with_reducible (exact Since.refl _) | with_reducible assumption | with_reducible (refine Since.drew ?_) | with_reducible (refine Since.drewN ?_ _) | with_reducible (refine Since.alloc ?_ _) | (with_reducible (refine Since.setCell ?_ ?_ _); rotate_left; focus (first | (simp; done) | (simp; omega) | omega)) | (with_reducible (refine Since.trans ?_ (by with_reducible assumption)))))); obtain ⟨c1, c2, c3⟩ := pcells hP1; obtain ⟨d1, d2, d3⟩ := pcells hQ1; have cF := hP1.2.1)
      refine bodyPost_ret (by simp only [results, Try.results32]; go_simp) rfl ⟨rfl, ?_⟩
      (repeat (first | with_reducible (exact Since.refl _) | with_reducible assumption | with_reducible (refine Since.drew ?_) | with_reducible (refine Since.drewN ?_ _) | with_reducible (refine Since.alloc ?_ _) | (with_reducible (refine Since.setCell ?_ ?_ _); rotate_left; focus (first | (simp; done) | (simp; omega) | omega)) | (with_reducible (refine Since.trans ?_ (by with_reducible assumption)))))
  · exact absurd e h
set_option maxRecDepth 100000 in
set_option maxHeartbeats 8000000 in
theorem ar_along_ok (x y r : Int) (h : alE x y r = 0) (w : World) : Calls Try.prog 32 #[Pt x y, .int .i64 r] w fun e w' => e = .returned (.tuple #[Pt (alX x y r) (alY x y r), .int .i64 0]) ∧ Since w w' := by
  have hL := fun w => ar_length r w
  have hE := fun w => eq_pt w x y 0 0
  have hmin := min2_run
  have hmax := max2_run
  have hw := way_lo (x := x) (y := y)
  rcases alE_cases x y r with ⟨e, h1⟩ | ⟨e, h1, rfl, rfl⟩ | ⟨e, h1, hn, h2⟩ | ⟨e, h1, hn, h2⟩
  · omega
  · omega
  · omega
  obtain ⟨r0, r1⟩ := lenB_iff.1 h1
  obtain ⟨y0, y1, y2, y3⟩ := wayB_iff.1 h2
  obtain ⟨⟨s0, s1⟩, ⟨s2, s3⟩, ⟨s4, s5⟩, s6, s7⟩ := way_sq h2 hn
  have hX := fun w => ar_share x r (x * x + y * y) (by omega) (by omega) (by omega) s6 w
  have hY := fun w => ar_share y r (x * x + y * y) (by omega) (by omega) (by omega) s7 w
  have u1 : IntKind.i64.wrap (x * x) = x * x := IntWalk.i64_in _ (by omega)
  have u2 : IntKind.i64.wrap (y * y) = y * y := IntWalk.i64_in _ (by omega)
  have u3 : IntKind.i64.wrap (x * x + y * y) = x * x + y * y := IntWalk.i64_in _ (by omega)
  unfold alX alY
  unfold Pt at *
  rw [h1] at hL; rw [h2] at hw
  have q1 : (x == 0 && y == 0) = false := by
    by_cases hx : x = 0 <;> by_cases hy : y = 0
    · exact absurd ⟨hx, hy⟩ hn
    all_goals simp [hx, hy]
  rw [q1] at hE
  clear hn h e h1 h2
  have hA : hi2 x y ≤ 8388608 ∧ -8388608 ≤ lo2 x y := by simpa using hw.symm
  have d1 : decide ((8388608 : Int) < hi2 x y) = false := by simp; omega
  have d2 : decide (lo2 x y < (-8388608 : Int)) = false := by simp; omega
  clear hw hA
  generalize hS0 : x * x + y * y = S at *
  generalize shrI x r S = P at *
  generalize shrI y r S = Q at *
  have HX := Lib.hid hX
  have HY := Lib.hid hY
  clear hX hY s0 s1 s2 s3 s4 s5 s6 s7 y0 y1 y2 y3 r0 r1
  go_enter Try.func32, Try.ntmps32
  go_upto_region 8 with (go_at_call 72; (with_reducible refine (hL _).mono ?_); rintro e w1 ⟨rfl, hS1⟩; have hP1 := (prow2 _ (w.heap.size + 1) (by simp) _ 0 0).since hS1; have hQ1 := ((prow2 w _ rfl _ x y).alloc _).since hS1; have hS : Since w w1 := (by (repeat (first | with_reducible (exact Since.refl _) | with_reducible assumption | with_reducible (refine Since.drew ?_) | with_reducible (refine Since.drewN ?_ _) | with_reducible (refine Since.alloc ?_ _) | (with_reducible (refine Since.setCell ?_ ?_ _); rotate_left; focus (first | (simp; done) | (simp; omega) | omega)) | (with_reducible (refine Since.trans ?_ (by with_reducible assumption)))))); obtain ⟨c1, c2, c3⟩ := pcells hP1; obtain ⟨d1, d2, d3⟩ := pcells hQ1; have cF := hP1.2.1)
  (refine wp_named fun wr1 hwr1 => ?_; go_region_held3 (fun w' => (∀ b o, b < (w.heap.size + 1) → w'.cell? ⟨b, o, none⟩ = wr1.cell? ⟨b, o, none⟩) ∧ (∀ b o, b < wr1.heap.size → w'.frozen? ⟨b, o, none⟩ = wr1.frozen? ⟨b, o, none⟩) ∧ (∀ k, k < wr1.heap.size → k < w'.heap.size) ∧ Below ((w.heap.size + 1)) wr1 w' ∧ (∀ o, o < 2 → w'.cell? ⟨(w.heap.size + 1), o, none⟩ = some (cellD w' ((w.heap.size + 1)) o))) ((subst hwr1; (repeat with_reducible (refine sr_set ?_ _ _)); first | assumption | (refine sr_step (by first | assumption | omega | (simp; done) | (simp; omega)) (by assumption) ?_; first | assumption | (repeat (first | with_reducible (exact Since.refl _) | with_reducible assumption | with_reducible (refine Since.drew ?_) | with_reducible (refine Since.drewN ?_ _) | with_reducible (refine Since.alloc ?_ _) | (with_reducible (refine Since.setCell ?_ ?_ _); rotate_left; focus (first | (simp; done) | (simp; omega) | omega))))) | (refine sr_step (by first | assumption | omega | (simp; done) | (simp; omega)) (sr_start (fun o ho => by (have ho' : o = 0 ∨ o = 1 := by omega); rcases ho' with rfl | rfl <;> (first | (simp [go_sem]; done) | simp_all))) ?_; first | assumption | (repeat (first | with_reducible (exact Since.refl _) | with_reducible assumption | with_reducible (refine Since.drew ?_) | with_reducible (refine Since.drewN ?_ _) | with_reducible (refine Since.alloc ?_ _) | (with_reducible (refine Since.setCell ?_ ?_ _); rotate_left; focus (first | (simp; done) | (simp; omega) | omega))))))) (first | (go_at_call 73; (with_reducible refine (HX.out _).mono ?_); rintro e w1 ⟨rfl, hS⟩; have hZ := hS.below.size; (try simp at hZ)) | (go_at_call 73; (with_reducible refine (HY.out _).mono ?_); rintro e w1 ⟨rfl, hS⟩; have hZ := hS.below.size; (try simp at hZ))); all_goals (rename_i hHeld; obtain ⟨hcR1, hfR1, hzR1, hbR1, hoR1⟩ := hHeld; have hiR := fun o ho => there_of (hoR1 o ho); (try simp only [there_set] at hiR); clear hoR1; subst hwr1; have hR1 : Since w _ := sr_out hbR1 (by (repeat (first | with_reducible (exact Since.refl _) | with_reducible assumption | with_reducible (refine Since.drew ?_) | with_reducible (refine Since.drewN ?_ _) | with_reducible (refine Since.alloc ?_ _) | (with_reducible (refine Since.setCell ?_ ?_ _); rotate_left; focus (first | (simp; done) | (simp; omega) | omega)) | (with_reducible (refine Since.trans ?_ (by with_reducible assumption)))))) (by first | (simp; done) | (simp; omega) | omega)))
  all_goals go_wp2
  all_goals refine bodyPost_ret (by simp only [results, Try.results32]; go_simp) rfl ⟨rfl, ?_⟩
  all_goals (repeat (first | with_reducible (exact Since.refl _) | with_reducible assumption | with_reducible (refine Since.drew ?_) | with_reducible (refine Since.drewN ?_ _) | with_reducible (refine Since.alloc ?_ _) | (with_reducible (refine Since.setCell ?_ ?_ _); rotate_left; focus (first | (simp; done) | (simp; omega) | omega)) | (with_reducible (refine Since.trans ?_ (by with_reducible assumption)))))
end Go.Proofs.Ytckochcocflleaa
