/-
  Layer 16: the document's 'clip', 'Hits', 'Of', 'Good', walked.
-/
import Derived.Test.YtckochcocflleaaGreatMgB
import Derived.Test.YtckochcocflleaaGreatPxE
import Derived.BigRegion
namespace Go.Proofs.YtckochcocflleaaGreat
open Go.RowKit
set_option linter.unusedVariables false

theorem tdiv64 (n : Int) : (0 ≤ n ∧ n.tdiv 64 = n / 64 ∧ n.tmod 64 = n % 64) ∨ (n < 0 ∧ n.tdiv 64 = -(-n / 64) ∧ n.tmod 64 = -(-n % 64)) := by
  rcases Int.lt_or_le n 0 with h | h
  · right
    refine ⟨h, ?_, ?_⟩
    · have e : n = -(-n) := by omega
      rw [e, Int.neg_tdiv, Int.tdiv_eq_ediv_of_nonneg (by omega)]; simp
    · have e : n = -(-n) := by omega
      rw [e, Int.neg_tmod, Int.tmod_eq_emod_of_nonneg (by omega)]; simp
  · left
    exact ⟨h, Int.tdiv_eq_ediv_of_nonneg h, Int.tmod_eq_emod_of_nonneg h⟩
set_option maxHeartbeats 2000000 in
theorem rf_down64 (n : Int) (hn : -9223372036854775808 ≤ n ∧ n ≤ 9223372036854775807) (w : World) : Calls Tryz.prog 43 #[.int .i64 n, .int .i64 64] w fun e w' => e = .returned (.int .i64 (n / 64)) ∧ Since w w' := by
  have ht := tdiv64 n
  by_cases h : n.tmod 64 < 0
  · have e : n / 64 = n.tdiv 64 - 1 := by omega
    rw [e]
    have d : decide (n.tmod 64 < 0) = true := by simp [h]
    have u1 : IntKind.i64.wrap (n.tdiv 64) = n.tdiv 64 := IntWalk.i64_in _ (by omega)
    have u2 : IntKind.i64.wrap (n.tmod 64) = n.tmod 64 := IntWalk.i64_in _ (by omega)
    have u3 : IntKind.i64.wrap (n.tdiv 64 - 1) = n.tdiv 64 - 1 := IntWalk.i64_in _ (by omega)
    have u4 : wrap64 (n.tdiv 64) = n.tdiv 64 := by unfold wrap64; omega
    clear e h ht
    go_enter Tryz.func43, Tryz.ntmps43
    go_wp2
    go_ret
    exact ⟨by first | rfl | simp, by (repeat (first | with_reducible (exact Since.refl _) | with_reducible assumption | with_reducible (refine Since.drew ?_) | with_reducible (refine Since.drewN ?_ _) | with_reducible (refine Since.alloc ?_ _) | (with_reducible (refine Since.setCell ?_ ?_ _); rotate_left; focus (first | (simp; done) | (simp; omega) | omega)) | (with_reducible (refine Since.trans ?_ (by with_reducible assumption)))))⟩
  · have e : n / 64 = n.tdiv 64 := by omega
    rw [e]
    have d : decide (n.tmod 64 < 0) = false := by simp; omega
    have u1 : IntKind.i64.wrap (n.tdiv 64) = n.tdiv 64 := IntWalk.i64_in _ (by omega)
    have u2 : IntKind.i64.wrap (n.tmod 64) = n.tmod 64 := IntWalk.i64_in _ (by omega)
    have u4 : wrap64 (n.tdiv 64) = n.tdiv 64 := by unfold wrap64; omega
    clear e h ht
    go_enter Tryz.func43, Tryz.ntmps43
    go_wp2
    go_ret
    exact ⟨by first | rfl | simp, by (repeat (first | with_reducible (exact Since.refl _) | with_reducible assumption | with_reducible (refine Since.drew ?_) | with_reducible (refine Since.drewN ?_ _) | with_reducible (refine Since.alloc ?_ _) | (with_reducible (refine Since.setCell ?_ ?_ _); rotate_left; focus (first | (simp; done) | (simp; omega) | omega)) | (with_reducible (refine Since.trans ?_ (by with_reducible assumption)))))⟩
set_option maxHeartbeats 4000000 in
theorem rf16_of (x y : Int) (hx : -9223372036854775808 ≤ x ∧ x ≤ 9223372036854775775) (hy : -9223372036854775808 ≤ y ∧ y ≤ 9223372036854775775) (w : World) :
    Calls Tryz.prog 23 #[Pt x y] w fun e w' => e = .returned (Pt (pxI x) (pxI y)) ∧ Since w w' := by
  have u1 : IntKind.i64.wrap (x + 32) = x + 32 := IntWalk.i64_in _ (by omega)
  have u2 : IntKind.i64.wrap (y + 32) = y + 32 := IntWalk.i64_in _ (by omega)
  have h1 := fun w => rf_down64 (x + 32) (by omega) w
  have h2 := fun w => rf_down64 (y + 32) (by omega) w
  unfold Pt pxI
  generalize (x + 32) / 64 = P at *
  generalize (y + 32) / 64 = Q at *
  have H1 := Lib.hid h1; have H2 := Lib.hid h2
  clear h1 h2
  go_enter Tryz.func23, Tryz.ntmps23
  go_upto_region 1 with fail
  (refine wp_named fun wr1 hwr1 => ?_; go_region_held3 (fun w' => (∀ b o, b < (w.heap.size + 1) → w'.cell? ⟨b, o, none⟩ = wr1.cell? ⟨b, o, none⟩) ∧ (∀ b o, b < wr1.heap.size → w'.frozen? ⟨b, o, none⟩ = wr1.frozen? ⟨b, o, none⟩) ∧ (∀ k, k < wr1.heap.size → k < w'.heap.size) ∧ Below ((w.heap.size + 1)) wr1 w' ∧ (∀ o, o < 2 → w'.cell? ⟨(w.heap.size + 1), o, none⟩ = some (cellD w' ((w.heap.size + 1)) o))) ((subst hwr1; (repeat with_reducible (refine sr_set ?_ _ _)); first | assumption | (refine sr_step (by first | assumption | omega | (simp; done) | (simp; omega)) (by assumption) ?_; first | assumption | (repeat (first | with_reducible (exact Since.refl _) | with_reducible assumption | with_reducible (refine Since.drew ?_) | with_reducible (refine Since.drewN ?_ _) | with_reducible (refine Since.alloc ?_ _) | (with_reducible (refine Since.setCell ?_ ?_ _); rotate_left; focus (first | (simp; done) | (simp; omega) | omega))))) | (refine sr_step (by first | assumption | omega | (simp; done) | (simp; omega)) (sr_start (fun o ho => by (have ho' : o = 0 ∨ o = 1 := by omega); rcases ho' with rfl | rfl <;> (first | (simp [go_sem]; done) | simp_all))) ?_; first | assumption | (repeat (first | with_reducible (exact Since.refl _) | with_reducible assumption | with_reducible (refine Since.drew ?_) | with_reducible (refine Since.drewN ?_ _) | with_reducible (refine Since.alloc ?_ _) | (with_reducible (refine Since.setCell ?_ ?_ _); rotate_left; focus (first | (simp; done) | (simp; omega) | omega))))))) (first | (go_at_call 43; (with_reducible refine (H1.out _).mono ?_); rintro e w1 ⟨rfl, hS⟩; have hZ := hS.below.size; (try simp at hZ)) | (go_at_call 43; (with_reducible refine (H2.out _).mono ?_); rintro e w1 ⟨rfl, hS⟩; have hZ := hS.below.size; (try simp at hZ))); all_goals (rename_i hHeld; obtain ⟨hcR1, hfR1, hzR1, hbR1, hoR1⟩ := hHeld; have hiR := fun o ho => there_of (hoR1 o ho); (try simp only [there_set] at hiR); clear hoR1; subst hwr1; have hR1 : Since w _ := sr_out hbR1 (by (repeat (first | with_reducible (exact Since.refl _) | with_reducible assumption | with_reducible (refine Since.drew ?_) | with_reducible (refine Since.drewN ?_ _) | with_reducible (refine Since.alloc ?_ _) | (with_reducible (refine Since.setCell ?_ ?_ _); rotate_left; focus (first | (simp; done) | (simp; omega) | omega)) | (with_reducible (refine Since.trans ?_ (by with_reducible assumption)))))) (by first | (simp; done) | (simp; omega) | omega)))
  all_goals go_wp2
  all_goals refine bodyPost_ret (by simp only [results, Tryz.results23]; go_simp) rfl ⟨rfl, ?_⟩
  all_goals (repeat (first | with_reducible (exact Since.refl _) | with_reducible assumption | with_reducible (refine Since.drew ?_) | with_reducible (refine Since.drewN ?_ _) | with_reducible (refine Since.alloc ?_ _) | (with_reducible (refine Since.setCell ?_ ?_ _); rotate_left; focus (first | (simp; done) | (simp; omega) | omega)) | (with_reducible (refine Since.trans ?_ (by with_reducible assumption)))))
end Go.Proofs.YtckochcocflleaaGreat
