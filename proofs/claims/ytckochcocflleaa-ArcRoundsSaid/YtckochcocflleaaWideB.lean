/-
  The walks of layer 1 (wide): small numbers, negation, products, order.
-/
import Derived.Test.YtckochcocflleaaWideA
namespace Go.Proofs.Ytckochcocflleaa
open Go.RowKit
set_option linter.unusedVariables false

theorem W_zero : Value.agg #[.int .i64 0, .int .u64 0] = W 0 := by unfold W hiW loW; rfl
theorem W_in64 {n : Int} (h : InW n) : W n = .agg #[.int .i64 (n / 9223372036854775808), .int .u64 (IntKind.u64.wrap n)] := by
  unfold InW at h
  have e1 : hiW n = n / 9223372036854775808 := by unfold hiW; omega
  have e2 : loW n = IntKind.u64.wrap n := by rw [IntKind.wrap_u64]; rfl
  unfold W; rw [e1, e2]

theorem wide_of (n : Int) (h : InW n) (w : World) :
    Calls Try.prog 52 #[.int .i64 n] w fun e w' => e = .returned (W n) ∧ Since w w' := by
  have h' := h
  unfold InW at h'
  rw [W_in64 h]
  go_enter Try.func52, Try.ntmps52
  go_wp2
  refine bodyPost_ret (by simp [results, Try.results52, go_sem]) rfl ⟨rfl, ?_⟩
  (repeat (first | with_reducible (exact Since.refl _) | with_reducible assumption | with_reducible (refine Since.drew ?_) | with_reducible (refine Since.drewN ?_ _) | with_reducible (refine Since.alloc ?_ _) | (with_reducible (refine Since.setCell ?_ ?_ _); rotate_left; focus (first | (simp; done) | (simp; omega) | omega)) | (with_reducible (refine Since.trans ?_ (by with_reducible assumption)))))

theorem wide_neg (a : Int) (ha : In128 a) (w : World) :
    Calls Try.prog 17 #[W a] w fun e w' => e = .returned (W (w128 (-a))) ∧ Since w w' := by
  have e0 : (0 : Int) - a = -a := by omega
  rw [← e0]; clear e0
  go_enter Try.func17, Try.ntmps17
  go_wp2_with (go_at_call 16; rw [W_zero]; refine (wide_sub 0 a (by unfold In128; omega) ha _).mono ?_; rintro e w1 ⟨rfl, hS1⟩; have hT := hS1; obtain ⟨hc, hf, hz, hb⟩ := hT)
  refine bodyPost_ret (by simp [results, Try.results17, go_sem, hc]) rfl ⟨rfl, ?_⟩
  (repeat (first | with_reducible (exact Since.refl _) | with_reducible assumption | with_reducible (refine Since.drew ?_) | with_reducible (refine Since.drewN ?_ _) | with_reducible (refine Since.alloc ?_ _) | (with_reducible (refine Since.setCell ?_ ?_ _); rotate_left; focus (first | (simp; done) | (simp; omega) | omega)) | (with_reducible (refine Since.trans ?_ (by with_reducible assumption)))))

theorem wide_small (a : Int) (ha : In128 a) (hs : InW a) (w : World) :
    Calls Try.prog 54 #[W a] w fun e w' => e = .returned (.tuple #[.int .i64 a, .bool true]) ∧ Since w w' := by
  have hv : wrap64 (loW a) = a := by unfold InW at hs; unfold wrap64 loW; omega
  go_enter Try.func54, Try.ntmps54
  go_wp2_with fail
  (refine wp_named fun wr1 hwr1 => ?_; go_region_held3 (fun w' => (∀ b o, b < wr1.heap.size → w'.cell? ⟨b, o, none⟩ = wr1.cell? ⟨b, o, none⟩) ∧ (∀ b o, b < wr1.heap.size → w'.frozen? ⟨b, o, none⟩ = wr1.frozen? ⟨b, o, none⟩) ∧ (∀ k, k < wr1.heap.size → k < w'.heap.size) ∧ Below wr1.heap.size wr1 w') ((subst hwr1; (repeat (with_reducible (refine since_put ?_ ?_ _); rotate_left; focus (first | (simp; done) | (simp; omega) | omega))); first | assumption | (refine since_step (by assumption) ?_; first | assumption | ((repeat (first | with_reducible (exact Since.refl _) | with_reducible assumption | with_reducible (refine Since.drew ?_) | with_reducible (refine Since.drewN ?_ _) | with_reducible (refine Since.alloc ?_ _) | (with_reducible (refine Since.setCell ?_ ?_ _); rotate_left; focus (first | (simp; done) | (simp; omega) | omega)))); done)) | (refine since_step (Since.refl _) ?_; first | assumption | ((repeat (first | with_reducible (exact Since.refl _) | with_reducible assumption | with_reducible (refine Since.drew ?_) | with_reducible (refine Since.drewN ?_ _) | with_reducible (refine Since.alloc ?_ _) | (with_reducible (refine Since.setCell ?_ ?_ _); rotate_left; focus (first | (simp; done) | (simp; omega) | omega)) | (with_reducible (refine Since.trans ?_ (by with_reducible assumption))))); done)))) ((go_at_call 52; refine (wide_of a hs _).mono ?_; rintro e w1 ⟨rfl, hS⟩; have hZ := hS.below.size; (try simp at hZ))); all_goals (rename_i hHeld; have hR1 : Since wr1 _ := hHeld; obtain ⟨hcR1, hfR1, hzR1, hbR1⟩ := hHeld; subst hwr1))
  go_wp2
  go_ret2
  exact ⟨rfl, by (repeat (first | with_reducible (exact Since.refl _) | with_reducible assumption | with_reducible (refine Since.drew ?_) | with_reducible (refine Since.drewN ?_ _) | with_reducible (refine Since.alloc ?_ _) | (with_reducible (refine Since.setCell ?_ ?_ _); rotate_left; focus (first | (simp; done) | (simp; omega) | omega)) | (with_reducible (refine Since.trans ?_ (by with_reducible assumption)))))⟩

/-- The low word as a small number. -/
def smallOf (a : Int) : Int := wrap64 (loW a)
theorem smallOf_in (a : Int) : InW (smallOf a) := by unfold smallOf wrap64 InW; omega
theorem smallOf_ne {a : Int} (hs : ¬ InW a) : (hiW (smallOf a) == hiW a) = false ∨ (loW (smallOf a) == loW a) = false := by
  by_cases h1 : hiW (smallOf a) = hiW a
  · by_cases h2 : loW (smallOf a) = loW a
    · exact absurd ((eq_iff _ _).2 ⟨h1, h2⟩ ▸ smallOf_in a) hs
    · exact .inr (by simpa using h2)
  · exact .inl (by simpa using h1)
theorem smallOf_lo (a : Int) : loW (smallOf a) = loW a := by unfold smallOf wrap64 loW; omega
theorem smallOf_hi {a : Int} (hs : ¬ InW a) : (hiW (smallOf a) == hiW a) = false := by
  rcases smallOf_ne hs with h | h
  · exact h
  · rw [smallOf_lo] at h; simp at h

theorem wide_big (a : Int) (ha : In128 a) (hs : ¬ InW a) (w : World) :
    Calls Try.prog 54 #[W a] w fun e w' => e = .returned (.tuple #[.int .i64 0, .bool false]) ∧ Since w w' := by
  have hv : wrap64 (loW a) = smallOf a := rfl
  have h1 := smallOf_hi hs
  clear hs
  have h2 := smallOf_in a
  have h3 := smallOf_lo a
  go_enter Try.func54, Try.ntmps54
  go_wp2_with fail
  (refine wp_named fun wr1 hwr1 => ?_; go_region_held3 (fun w' => (∀ b o, b < wr1.heap.size → w'.cell? ⟨b, o, none⟩ = wr1.cell? ⟨b, o, none⟩) ∧ (∀ b o, b < wr1.heap.size → w'.frozen? ⟨b, o, none⟩ = wr1.frozen? ⟨b, o, none⟩) ∧ (∀ k, k < wr1.heap.size → k < w'.heap.size) ∧ Below wr1.heap.size wr1 w') ((subst hwr1; (repeat (with_reducible (refine since_put ?_ ?_ _); rotate_left; focus (first | (simp; done) | (simp; omega) | omega))); first | assumption | (refine since_step (by assumption) ?_; first | assumption | ((repeat (first | with_reducible (exact Since.refl _) | with_reducible assumption | with_reducible (refine Since.drew ?_) | with_reducible (refine Since.drewN ?_ _) | with_reducible (refine Since.alloc ?_ _) | (with_reducible (refine Since.setCell ?_ ?_ _); rotate_left; focus (first | (simp; done) | (simp; omega) | omega)))); done)) | (refine since_step (Since.refl _) ?_; first | assumption | ((repeat (first | with_reducible (exact Since.refl _) | with_reducible assumption | with_reducible (refine Since.drew ?_) | with_reducible (refine Since.drewN ?_ _) | with_reducible (refine Since.alloc ?_ _) | (with_reducible (refine Since.setCell ?_ ?_ _); rotate_left; focus (first | (simp; done) | (simp; omega) | omega)) | (with_reducible (refine Since.trans ?_ (by with_reducible assumption))))); done)))) ((go_at_call 52; refine (wide_of (smallOf a) h2 _).mono ?_; rintro e w1 ⟨rfl, hS⟩; have hZ := hS.below.size; (try simp at hZ))); all_goals (rename_i hHeld; have hR1 : Since wr1 _ := hHeld; obtain ⟨hcR1, hfR1, hzR1, hbR1⟩ := hHeld; subst hwr1))
  go_wp2
  go_ret2
  exact ⟨rfl, by (repeat (first | with_reducible (exact Since.refl _) | with_reducible assumption | with_reducible (refine Since.drew ?_) | with_reducible (refine Since.drewN ?_ _) | with_reducible (refine Since.alloc ?_ _) | (with_reducible (refine Since.setCell ?_ ?_ _); rotate_left; focus (first | (simp; done) | (simp; omega) | omega)) | (with_reducible (refine Since.trans ?_ (by with_reducible assumption)))))⟩

/-- Which is greater: -1, 0 or 1. -/
def cmpI (a b : Int) : Int := if a < b then -1 else if b < a then 1 else 0

theorem cmpI_hi {a b : Int} (h : hiW a ≠ hiW b) : cmpI (hiW a) (hiW b) = cmpI a b := by
  have := hi_lo a; have := hi_lo b; have := lo_bd a; have := lo_bd b
  unfold cmpI; split <;> split <;> (try split) <;> omega
theorem cmpI_lo {a b : Int} (h : hiW a = hiW b) : cmpI (loW a) (loW b) = cmpI a b := by
  have := hi_lo a; have := hi_lo b; have := lo_bd a; have := lo_bd b
  unfold cmpI; split <;> split <;> (try split) <;> omega

def signI (a : Int) : Int := cmpI a 0
end Go.Proofs.Ytckochcocflleaa
