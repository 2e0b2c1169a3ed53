/-
  Layer 11: 'Mid' of both, 'point', 'at', walked.
-/
import Derived.Test.YtdbenpncnkfliaaOuA
namespace Go.Proofs.Ytdbenpncnkfliaa
open Go.RowKit
set_option linter.unusedVariables false

def mid (a b : Int) : Int := (a + b) / 2
theorem mid_in {a b : Int} (ha : In64 a) (hb : In64 b) : In64 (mid a b) := by unfold In64 mid at *; omega
theorem ou_middle' (a b : Int) (ha : In64 a) (hb : In64 b) (w : World) : Calls Try.prog 50 #[.int .i64 a, .int .i64 b] w fun e w' => e = .returned (.int .i64 (mid a b)) ∧ Since w w' := ou_middle a b ha hb w
set_option maxRecDepth 100000 in
set_option maxHeartbeats 4000000 in
theorem ou_mid (x y u v : Int) (h : InP x y) (h' : InP u v) (w : World) :
    Calls Try.prog 19 #[Pt x y, Pt u v] w fun e w' => e = .returned (Pt (mid x u) (mid y v)) ∧ Since w w' := by
  have h1 := fun w => ou_middle' x u h.1 h'.1 w
  have h2 := fun w => ou_middle' y v h.2 h'.2 w
  generalize mid x u = X at *
  generalize mid y v = Y at *
  unfold Pt
  have H1 := Lib.hid h1
  have H2 := Lib.hid h2
  clear h1 h2 h h'
  go_enter Try.func19, Try.ntmps19
  go_wp2
  (refine wp_named fun wr1 hwr1 => ?_; go_region_held3 (fun w' => (∀ b o, b < (w.heap.size + 1 + 1) → w'.cell? ⟨b, o, none⟩ = wr1.cell? ⟨b, o, none⟩) ∧ (∀ b o, b < wr1.heap.size → w'.frozen? ⟨b, o, none⟩ = wr1.frozen? ⟨b, o, none⟩) ∧ (∀ k, k < wr1.heap.size → k < w'.heap.size) ∧ Below ((w.heap.size + 1 + 1)) wr1 w' ∧ (∀ o, o < 2 → w'.cell? ⟨(w.heap.size + 1 + 1), o, none⟩ = some (cellD w' ((w.heap.size + 1 + 1)) o))) ((subst hwr1; (repeat with_reducible (refine sr_set ?_ _ _)); first | assumption | (refine sr_step (by first | assumption | omega | (simp; done) | (simp; omega)) (by assumption) ?_; first | assumption | (repeat (first | with_reducible (exact Since.refl _) | with_reducible assumption | with_reducible (refine Since.drew ?_) | with_reducible (refine Since.drewN ?_ _) | with_reducible (refine Since.alloc ?_ _) | (with_reducible (refine Since.setCell ?_ ?_ _); rotate_left; focus (first | (simp; done) | (simp; omega) | omega))))) | (refine sr_step (by first | assumption | omega | (simp; done) | (simp; omega)) (sr_start (fun o ho => by (have ho' : o = 0 ∨ o = 1 := by omega); rcases ho' with rfl | rfl <;> (first | (simp [go_sem]; done) | simp_all))) ?_; first | assumption | (repeat (first | with_reducible (exact Since.refl _) | with_reducible assumption | with_reducible (refine Since.drew ?_) | with_reducible (refine Since.drewN ?_ _) | with_reducible (refine Since.alloc ?_ _) | (with_reducible (refine Since.setCell ?_ ?_ _); rotate_left; focus (first | (simp; done) | (simp; omega) | omega))))))) (first | (go_at_call 50; (with_reducible refine (H1.out _).mono ?_); rintro e w1 ⟨rfl, hS⟩; have hZ := hS.below.size; (try simp at hZ)) | (go_at_call 50; (with_reducible refine (H2.out _).mono ?_); rintro e w1 ⟨rfl, hS⟩; have hZ := hS.below.size; (try simp at hZ))); all_goals (rename_i hHeld; obtain ⟨hcR1, hfR1, hzR1, hbR1, hoR1⟩ := hHeld; have hiR := fun o ho => there_of (hoR1 o ho); (try simp only [there_set] at hiR); clear hoR1; subst hwr1; have hR1 : Since w _ := sr_out hbR1 (by (repeat (first | with_reducible (exact Since.refl _) | with_reducible assumption | with_reducible (refine Since.drew ?_) | with_reducible (refine Since.drewN ?_ _) | with_reducible (refine Since.alloc ?_ _) | (with_reducible (refine Since.setCell ?_ ?_ _); rotate_left; focus (first | (simp; done) | (simp; omega) | omega)) | (with_reducible (refine Since.trans ?_ (by with_reducible assumption)))))) (by first | (simp; done) | (simp; omega) | omega)))
  all_goals go_wp2
  all_goals refine bodyPost_ret (by simp only [results, Try.results19]; go_simp) rfl ⟨rfl, ?_⟩
  all_goals (repeat (first | with_reducible (exact Since.refl _) | with_reducible assumption | with_reducible (refine Since.drew ?_) | with_reducible (refine Since.drewN ?_ _) | with_reducible (refine Since.alloc ?_ _) | (with_reducible (refine Since.setCell ?_ ?_ _); rotate_left; focus (first | (simp; done) | (simp; omega) | omega)) | (with_reducible (refine Since.trans ?_ (by with_reducible assumption)))))
theorem tdiv_two {a : Int} : a = 2 * a.tdiv 2 ∨ (0 < a ∧ a = 2 * a.tdiv 2 + 1) ∨ (a < 0 ∧ a = 2 * a.tdiv 2 - 1) := by
  rcases Int.lt_or_le a 0 with hn | hn
  · have e : a.tdiv 2 = -((-a) / 2) := by
      have h1 : (-a).tdiv 2 = (-a) / 2 := Int.tdiv_eq_ediv_of_nonneg (by omega)
      rw [Int.neg_tdiv] at h1
      omega
    rw [e]
    omega
  · rw [Int.tdiv_eq_ediv_of_nonneg hn]
    omega
set_option maxRecDepth 100000 in
set_option maxHeartbeats 4000000 in
theorem rf_half (a b : Int) (ha : In64 a) (hb : In64 b) (w : World) :
    Calls Try.prog 51 #[.int .i64 a, .int .i64 b] w fun e w' => e = .returned (.int .i64 (mid a b)) ∧ Since w w' := by
  have ka := tdiv_two (a := a)
  have kb := tdiv_two (a := b)
  unfold In64 mid at *
  have w0 : IntKind.i64.wrap (a.tdiv 2) = a.tdiv 2 := IntWalk.i64_in _ (by omega)
  have w0' : IntKind.i64.wrap (b.tdiv 2) = b.tdiv 2 := IntWalk.i64_in _ (by omega)
  have w1 : IntKind.i64.wrap (2 * a.tdiv 2) = 2 * a.tdiv 2 := IntWalk.i64_in _ (by omega)
  have w2 : IntKind.i64.wrap (2 * b.tdiv 2) = 2 * b.tdiv 2 := IntWalk.i64_in _ (by omega)
  have w3 : IntKind.i64.wrap (a - 2 * a.tdiv 2) = a - 2 * a.tdiv 2 := IntWalk.i64_in _ (by omega)
  have w5 : wrap64 (wrap64 (a - 2 * a.tdiv 2 + b) - 2 * b.tdiv 2) = a - 2 * a.tdiv 2 + b - 2 * b.tdiv 2 := by unfold wrap64; omega
  have s1 : wrap64 (a.tdiv 2 + b.tdiv 2) = a.tdiv 2 + b.tdiv 2 := by unfold wrap64; omega
  generalize hp : a.tdiv 2 = p at *
  generalize hq : b.tdiv 2 = q at *
  generalize hR : wrap64 (wrap64 (a - 2 * p + b) - 2 * q) = R at *
  have hr : R = 2 ∨ R < 0 ∨ (R ≠ 2 ∧ ¬ R < 0) := by omega
  have HR := Lib.hid hR
  rcases hr with hr | hr | ⟨hr, hr'⟩
  · have d1 : (wrap64 (wrap64 (a - 2 * p + b) - 2 * q) == 2) = true := by rw [HR.out]; simp [hr]
    have s2 : wrap64 (p + q + 1) = (a + b) / 2 := by unfold wrap64; omega
    clear hr ka kb ha hb w5 hR HR
    go_enter Try.func51, Try.ntmps51
    go_wp2
    go_ret
    exact ⟨by show Ending.returned (.int .i64 (wrap64 (p + q + 1))) = _; rw [s2], by (repeat (first | with_reducible (exact Since.refl _) | with_reducible assumption | with_reducible (refine Since.drew ?_) | with_reducible (refine Since.drewN ?_ _) | with_reducible (refine Since.alloc ?_ _) | (with_reducible (refine Since.setCell ?_ ?_ _); rotate_left; focus (first | (simp; done) | (simp; omega) | omega)) | (with_reducible (refine Since.trans ?_ (by with_reducible assumption)))))⟩
  · have d1 : (wrap64 (wrap64 (a - 2 * p + b) - 2 * q) == 2) = false := by rw [HR.out]; simp; omega
    have d2 : decide (wrap64 (wrap64 (a - 2 * p + b) - 2 * q) < 0) = true := by rw [HR.out]; simp [hr]
    have s2 : wrap64 (p + q - 1) = (a + b) / 2 := by unfold wrap64; omega
    clear hr ka kb ha hb w5 hR HR
    go_enter Try.func51, Try.ntmps51
    go_wp2
    go_ret
    exact ⟨by show Ending.returned (.int .i64 (wrap64 (p + q - 1))) = _; rw [s2], by (repeat (first | with_reducible (exact Since.refl _) | with_reducible assumption | with_reducible (refine Since.drew ?_) | with_reducible (refine Since.drewN ?_ _) | with_reducible (refine Since.alloc ?_ _) | (with_reducible (refine Since.setCell ?_ ?_ _); rotate_left; focus (first | (simp; done) | (simp; omega) | omega)) | (with_reducible (refine Since.trans ?_ (by with_reducible assumption)))))⟩
  · have d1 : (wrap64 (wrap64 (a - 2 * p + b) - 2 * q) == 2) = false := by rw [HR.out]; simp [hr]
    have d2 : decide (wrap64 (wrap64 (a - 2 * p + b) - 2 * q) < 0) = false := by rw [HR.out]; simpa using hr'
    have s2 : wrap64 (p + q) = (a + b) / 2 := by unfold wrap64; omega
    clear hr ka kb ha hb w5 hR HR s1
    go_enter Try.func51, Try.ntmps51
    go_wp2
    go_ret
    exact ⟨rfl, by (repeat (first | with_reducible (exact Since.refl _) | with_reducible assumption | with_reducible (refine Since.drew ?_) | with_reducible (refine Since.drewN ?_ _) | with_reducible (refine Since.alloc ?_ _) | (with_reducible (refine Since.setCell ?_ ?_ _); rotate_left; focus (first | (simp; done) | (simp; omega) | omega)) | (with_reducible (refine Since.trans ?_ (by with_reducible assumption)))))⟩
set_option maxRecDepth 100000 in
set_option maxHeartbeats 4000000 in
theorem rf_mid (x y u v : Int) (h : InP x y) (h' : InP u v) (w : World) :
    Calls Try.prog 20 #[Pt x y, Pt u v] w fun e w' => e = .returned (Pt (mid x u) (mid y v)) ∧ Since w w' := by
  have h1 := fun w => rf_half x u h.1 h'.1 w
  have h2 := fun w => rf_half y v h.2 h'.2 w
  generalize mid x u = X at *
  generalize mid y v = Y at *
  unfold Pt
  have H1 := Lib.hid h1
  have H2 := Lib.hid h2
  clear h1 h2 h h'
  go_enter Try.func20, Try.ntmps20
  go_wp2
  (refine wp_named fun wr1 hwr1 => ?_; go_region_held3 (fun w' => (∀ b o, b < (w.heap.size + 1 + 1) → w'.cell? ⟨b, o, none⟩ = wr1.cell? ⟨b, o, none⟩) ∧ (∀ b o, b < wr1.heap.size → w'.frozen? ⟨b, o, none⟩ = wr1.frozen? ⟨b, o, none⟩) ∧ (∀ k, k < wr1.heap.size → k < w'.heap.size) ∧ Below ((w.heap.size + 1 + 1)) wr1 w' ∧ (∀ o, o < 2 → w'.cell? ⟨(w.heap.size + 1 + 1), o, none⟩ = some (cellD w' ((w.heap.size + 1 + 1)) o))) ((subst hwr1; (repeat with_reducible (refine sr_set ?_ _ _)); first | assumption | (refine sr_step (by first | assumption | omega | (simp; done) | (simp; omega)) (by assumption) ?_; first | assumption | (repeat (first | with_reducible (exact Since.refl _) | with_reducible assumption | with_reducible (refine Since.drew ?_) | with_reducible (refine Since.drewN ?_ _) | with_reducible (refine Since.alloc ?_ _) | (with_reducible (refine Since.setCell ?_ ?_ _); rotate_left; focus (first | (simp; done) | (simp; omega) | omega))))) | (refine sr_step (by first | assumption | omega | (simp; done) | (simp; omega)) (sr_start (fun o ho => by (have ho' : o = 0 ∨ o = 1 := by omega); rcases ho' with rfl | rfl <;> (first | (simp [go_sem]; done) | simp_all))) ?_; first | assumption | (repeat (first | with_reducible (exact Since.refl _) | with_reducible assumption | with_reducible (refine Since.drew ?_) | with_reducible (refine Since.drewN ?_ _) | with_reducible (refine Since.alloc ?_ _) | (with_reducible (refine Since.setCell ?_ ?_ _); rotate_left; focus (first | (simp; done) | (simp; omega) | omega))))))) (first | (go_at_call 51; (with_reducible refine (H1.out _).mono ?_); rintro e w1 ⟨rfl, hS⟩; have hZ := hS.below.size; (try simp at hZ)) | (go_at_call 51; (with_reducible refine (H2.out _).mono ?_); rintro e w1 ⟨rfl, hS⟩; have hZ := hS.below.size; (try simp at hZ))); all_goals (rename_i hHeld; obtain ⟨hcR1, hfR1, hzR1, hbR1, hoR1⟩ := hHeld; have hiR := fun o ho => there_of (hoR1 o ho); (try simp only [there_set] at hiR); clear hoR1; subst hwr1; have hR1 : Since w _ := sr_out hbR1 (by (repeat (first | with_reducible (exact Since.refl _) | with_reducible assumption | with_reducible (refine Since.drew ?_) | with_reducible (refine Since.drewN ?_ _) | with_reducible (refine Since.alloc ?_ _) | (with_reducible (refine Since.setCell ?_ ?_ _); rotate_left; focus (first | (simp; done) | (simp; omega) | omega)) | (with_reducible (refine Since.trans ?_ (by with_reducible assumption)))))) (by first | (simp; done) | (simp; omega) | omega)))
  all_goals go_wp2
  all_goals refine bodyPost_ret (by simp only [results, Try.results20]; go_simp) rfl ⟨rfl, ?_⟩
  all_goals (repeat (first | with_reducible (exact Since.refl _) | with_reducible assumption | with_reducible (refine Since.drew ?_) | with_reducible (refine Since.drewN ?_ _) | with_reducible (refine Since.alloc ?_ _) | (with_reducible (refine Since.setCell ?_ ?_ _); rotate_left; focus (first | (simp; done) | (simp; omega) | omega)) | (with_reducible (refine Since.trans ?_ (by with_reducible assumption)))))
/-- A knot. -/
def Kn (x y : Int) (o : Bool) : Value := .agg #[.int .i64 x, .int .i64 y, .bool o]
theorem ou_point (x y : Int) (o : Bool) (w : World) : Calls Try.prog 48 #[Kn x y o] w fun e w' => e = .returned (Pt x y) ∧ Since w w' := by
  unfold Kn Pt
  go_enter Try.func48, Try.ntmps48
  go_wp2
  refine bodyPost_ret (by simp only [results, Try.results48]; go_simp) rfl ⟨rfl, ?_⟩
  (repeat (first | with_reducible (exact Since.refl _) | with_reducible assumption | with_reducible (refine Since.drew ?_) | with_reducible (refine Since.drewN ?_ _) | with_reducible (refine Since.alloc ?_ _) | (with_reducible (refine Since.setCell ?_ ?_ _); rotate_left; focus (first | (simp; done) | (simp; omega) | omega)) | (with_reducible (refine Since.trans ?_ (by with_reducible assumption)))))
theorem rf_at (x y : Int) (o : Bool) (w : World) : Calls Try.prog 49 #[Kn x y o] w fun e w' => e = .returned (Pt x y) ∧ Since w w' := by
  unfold Kn Pt
  go_enter Try.func49, Try.ntmps49
  go_wp2
  refine bodyPost_ret (by simp only [results, Try.results49]; go_simp) rfl ⟨rfl, ?_⟩
  (repeat (first | with_reducible (exact Since.refl _) | with_reducible assumption | with_reducible (refine Since.drew ?_) | with_reducible (refine Since.drewN ?_ _) | with_reducible (refine Since.alloc ?_ _) | (with_reducible (refine Since.setCell ?_ ?_ _); rotate_left; focus (first | (simp; done) | (simp; omega) | omega)) | (with_reducible (refine Since.trans ?_ (by with_reducible assumption)))))
theorem ou_on (x y : Int) (o : Bool) (w : World) : Calls Try.prog 47 #[Kn x y o] w fun e w' => e = .returned (.bool o) ∧ Since w w' := by
  unfold Kn
  go_enter Try.func47, Try.ntmps47
  go_wp2
  go_ret
  exact ⟨rfl, by (repeat (first | with_reducible (exact Since.refl _) | with_reducible assumption | with_reducible (refine Since.drew ?_) | with_reducible (refine Since.drewN ?_ _) | with_reducible (refine Since.alloc ?_ _) | (with_reducible (refine Since.setCell ?_ ?_ _); rotate_left; focus (first | (simp; done) | (simp; omega) | omega)) | (with_reducible (refine Since.trans ?_ (by with_reducible assumption)))))⟩
end Go.Proofs.Ytdbenpncnkfliaa
