/-
  Layer 10: 'Turn', 'Quarter', walked.
-/
import Derived.Test.YtckochcocflleaaGaC
namespace Go.Proofs.Ytckochcocflleaa
open Go.RowKit
set_option linter.unusedVariables false

theorem stands_zero : Stands 0 0 := ⟨false, 0, -1074, by decide, is_zero false _⟩
theorem stands_one : Stands 4607182418800017408 1 := by
  have h := stands_int 1 (by decide)
  rw [show floatOfInt .f64 1 = 4607182418800017408 by decide +kernel] at h
  exact h
theorem order_self {b : Nat} {n : Int} (h : Stands b n) : FloatKind.f64.format.order b b = some .eq := by
  have := stands_order h h
  rw [show compare n n = .eq by simp [compare, compareOfLessAndEq]] at this
  exact this
def sgnI (n : Int) : Int := if n < 0 then -1 else if n = 0 then 0 else 1

set_option maxRecDepth 100000 in
set_option maxHeartbeats 4000000 in
theorem cmp_nan (b : Nat) {n : Int} (h : Stands b n) (w : World) :
    Calls Try.prog 149 #[.float .f64 b] w fun e w' => e = .returned (.bool false) ∧ w' = w := by
  have h1 := order_self h
  clear h
  go_enter Try.func149, Try.ntmps149
  go_wp2
  go_ret
  exact ⟨rfl, rfl⟩
set_option maxRecDepth 100000 in
set_option maxHeartbeats 4000000 in
theorem cmp_zero (b : Nat) {n : Int} (h : Stands b n) (w : World) :
    Calls Try.prog 145 #[.float .f64 b, .float .f64 0] w fun e w' => e = .returned (.int .i64 (sgnI n)) ∧ w' = w := by
  have ho : FloatKind.f64.format.order b 0 = some (compare n 0) := stands_order h stands_zero
  have c1 := fun w => cmp_nan b h w
  have c2 := fun w => cmp_nan 0 stands_zero w
  have C1 := Lib.hid c1; have C2 := Lib.hid c2
  clear h c1 c2
  have hl : compare n 0 = if n < 0 then .lt else if n = 0 then .eq else .gt := by simp only [compare, compareOfLessAndEq]
  rw [hl] at ho
  unfold sgnI
  rcases Int.lt_trichotomy n 0 with g | g | g
  · rw [if_pos g] at ho ⊢
    clear hl g
    go_enter Try.func145, Try.ntmps145
    go_wp2_with (first | (go_at_call 149; refine (C1.out _).mono ?_; rintro e w ⟨rfl, rfl⟩) | (go_at_call 149; refine (C2.out _).mono ?_; rintro e w ⟨rfl, rfl⟩))
    go_ret
    exact ⟨rfl, rfl⟩
  · subst g
    rw [if_neg (by decide), if_pos rfl] at ho ⊢
    clear hl
    go_enter Try.func145, Try.ntmps145
    go_wp2_with (first | (go_at_call 149; refine (C1.out _).mono ?_; rintro e w ⟨rfl, rfl⟩) | (go_at_call 149; refine (C2.out _).mono ?_; rintro e w ⟨rfl, rfl⟩))
    go_ret
    exact ⟨rfl, rfl⟩
  · rw [if_neg (by omega), if_neg (by omega)] at ho ⊢
    clear hl g
    go_enter Try.func145, Try.ntmps145
    go_wp2_with (first | (go_at_call 149; refine (C1.out _).mono ?_; rintro e w ⟨rfl, rfl⟩) | (go_at_call 149; refine (C2.out _).mono ?_; rintro e w ⟨rfl, rfl⟩))
    go_ret
    exact ⟨rfl, rfl⟩

/-- The difference of two points as complex numbers. -/
def suB (a b c d : Nat) : Nat × Nat := (cSumBits .sub .f64 a b c d).getD (0, 0)
theorem suB_stands {a b c d : Nat} {p q r s : Int} (ha : Stands a p) (hb : Stands b q) (hc : Stands c r) (hd : Stands d s) (h1 : (p - r).natAbs < 2 ^ 53) (h2 : (q - s).natAbs < 2 ^ 53) :
    cSumBits .sub .f64 a b c d = some ((suB a b c d).1, (suB a b c d).2) ∧ Stands (suB a b c d).1 (p - r) ∧ Stands (suB a b c d).2 (q - s) := by
  obtain ⟨x1, e1, s1⟩ := stands_sub ha hc h1
  obtain ⟨x2, e2, s2⟩ := stands_sub hb hd h2
  have e : cSumBits .sub .f64 a b c d = some (x1, x2) := by unfold cSumBits; simp only [e1, e2, Option.bind_some]
  unfold suB
  rw [e]
  exact ⟨rfl, s1, s2⟩
def turnI (x y u v p q : Int) : Int := sgnI (crossI (u - x) (v - y) (p - x) (q - y))

set_option maxRecDepth 100000 in
set_option maxHeartbeats 8000000 in
theorem ga_turn (x y u v p q : Int) (h : InP x y) (h' : InP u v) (h'' : InP p q) (w : World) :
    Calls Try.prog 128 #[Pt x y, Pt u v, Pt p q] w fun e w' => e = .returned (.tuple #[.int .i64 (if goodB x y && goodB u v && goodB p q then turnI x y u v p q else 0), .int .i64 (okE (goodB x y && goodB u v && goodB p q))]) ∧ Since w w' := by
  have hg := fun w b hb t => good3 w b hb x y u v p q t h h' h''
  by_cases hgg : (goodB x y && goodB u v && goodB p q) = true
  · obtain ⟨g12, g3⟩ := Bool.and_eq_true_iff.1 hgg
    obtain ⟨g1, g2⟩ := Bool.and_eq_true_iff.1 g12
    have k1 := goodB_iff.1 g1; have k2 := goodB_iff.1 g2; have k3 := goodB_iff.1 g3
    obtain ⟨_, _, m1, m2⟩ := good_near g1
    obtain ⟨_, _, m3, m4⟩ := good_near g2
    obtain ⟨_, _, m5, m6⟩ := good_near g3
    have hB := suB_stands (fl_stands m3) (fl_stands m4) (fl_stands m1) (fl_stands m2) (by omega) (by omega)
    have hC := suB_stands (fl_stands m5) (fl_stands m6) (fl_stands m1) (fl_stands m2) (by omega) (by omega)
    have s1 := fun t w => run_complex_sum (P := Try.prog) w .sub (.inr rfl) t .f64 (fl u) (fl v) (fl x) (fl y) _ _ hB.1
    have s2 := fun t w => run_complex_sum (P := Try.prog) w .sub (.inr rfl) t .f64 (fl p) (fl q) (fl x) (fl y) _ _ hC.1
    have n1 : Near (u - x) := by unfold Near; omega
    have n2 : Near (v - y) := by unfold Near; omega
    have n3 : Near (p - x) := by unfold Near; omega
    have n4 : Near (q - y) := by unfold Near; omega
    have hI := inB_stands hB.2.1 hB.2.2 hC.2.1 hC.2.2 n1 n2 n3 n4
    have hin := fun w => ga_inner _ _ _ _ hB.2.1 hB.2.2 hC.2.1 hC.2.2 n1 n2 n3 n4 w
    have hcmp := fun w => cmp_zero _ hI.2.2 w
    rw [hgg] at hg ⊢
    simp only [if_true, okE]
    unfold turnI crossI
    generalize (inB (suB (fl u) (fl v) (fl x) (fl y)).1 (suB (fl u) (fl v) (fl x) (fl y)).2 (suB (fl p) (fl q) (fl x) (fl y)).1 (suB (fl p) (fl q) (fl x) (fl y)).2).1 = z1 at *
    generalize (inB (suB (fl u) (fl v) (fl x) (fl y)).1 (suB (fl u) (fl v) (fl x) (fl y)).2 (suB (fl p) (fl q) (fl x) (fl y)).1 (suB (fl p) (fl q) (fl x) (fl y)).2).2 = z2 at *
    generalize (suB (fl u) (fl v) (fl x) (fl y)).1 = d1 at *
    generalize (suB (fl u) (fl v) (fl x) (fl y)).2 = d2 at *
    generalize (suB (fl p) (fl q) (fl x) (fl y)).1 = d3 at *
    generalize (suB (fl p) (fl q) (fl x) (fl y)).2 = d4 at *
    generalize sgnI ((u - x) * (q - y) - (v - y) * (p - x)) = N at *
    clear hI hB hC hgg g1 g2 g3 g12 n1 n2 n3 n4 m1 m2 m3 m4 m5 m6 k1 k2 k3 h h' h''
    have hnum := fun x y w => ga_number x y w
    unfold Pt at *
    have HG := Lib.hid hg; have HI := Lib.hid hin; have HN := Lib.hid hnum; have HC := Lib.hid hcmp
    clear hg hin hnum hcmp
    go_enter Try.func128, Try.ntmps128
    go_wp2_with (go_at_call 59; (with_reducible refine (HG.out _ _ (by simp) _).mono ?_); rintro e w1 ⟨rfl, hS1⟩; have hP1 := ((((pt_new w _ rfl x y _).alloc _).alloc _).alloc _).since hS1; have hP2 := (((pt_new _ (w.heap.size + 1) (by simp) u v _).alloc _).alloc _).since hS1; have hP3 := ((pt_new _ (w.heap.size + 1 + 1) (by simp) p q _).alloc _).since hS1; have hS : Since w w1 := by (repeat (first | with_reducible (exact Since.refl _) | with_reducible assumption | with_reducible (refine Since.drew ?_) | with_reducible (refine Since.drewN ?_ _) | with_reducible (refine Since.alloc ?_ _) | (with_reducible (refine Since.setCell ?_ ?_ _); rotate_left; focus (first | (simp; done) | (simp; omega) | omega)) | (with_reducible (refine Since.trans ?_ (by with_reducible assumption))))))
    obtain ⟨p1, p2, p3⟩ := hP1
    obtain ⟨p4, p5, p6⟩ := hP2
    obtain ⟨p7, p8, p9⟩ := hP3
    clear hS1
    (refine wp_named fun wr1 hwr1 => ?_; go_region_held3 (fun w' => (∀ b o, b < wr1.heap.size → w'.cell? ⟨b, o, none⟩ = wr1.cell? ⟨b, o, none⟩) ∧ (∀ b o, b < wr1.heap.size → w'.frozen? ⟨b, o, none⟩ = wr1.frozen? ⟨b, o, none⟩) ∧ (∀ k, k < wr1.heap.size → k < w'.heap.size) ∧ Below wr1.heap.size wr1 w') ((subst hwr1; (repeat (with_reducible (refine since_put ?_ ?_ _); rotate_left; focus (first | (simp; done) | (simp; omega) | omega))); first | assumption | (refine since_step (by assumption) ?_; first | assumption | ((repeat (first | with_reducible (exact Since.refl _) | with_reducible assumption | with_reducible (refine Since.drew ?_) | with_reducible (refine Since.drewN ?_ _) | with_reducible (refine Since.alloc ?_ _) | (with_reducible (refine Since.setCell ?_ ?_ _); rotate_left; focus (first | (simp; done) | (simp; omega) | omega)))); done)) | (refine since_step (Since.refl _) ?_; first | assumption | ((repeat (first | with_reducible (exact Since.refl _) | with_reducible assumption | with_reducible (refine Since.drew ?_) | with_reducible (refine Since.drewN ?_ _) | with_reducible (refine Since.alloc ?_ _) | (with_reducible (refine Since.setCell ?_ ?_ _); rotate_left; focus (first | (simp; done) | (simp; omega) | omega)) | (with_reducible (refine Since.trans ?_ (by with_reducible assumption))))); done)))) (first | (go_at_call 144; refine (HN.out _ _ _).mono ?_; rintro e w1 ⟨rfl, hS⟩; have hZ := hS.below.size; (try simp at hZ)) | (go_at_call 143; refine (HI.out _).mono ?_; rintro e w1 ⟨rfl, hS⟩; have hZ := hS.below.size; (try simp at hZ))); all_goals (rename_i hHeld; have hR1 : Since wr1 _ := hHeld; obtain ⟨hcR1, hfR1, hzR1, hbR1⟩ := hHeld; subst hwr1))
    go_wp2_with (go_at_call 145; refine (HC.out _).mono ?_; rintro e w2 ⟨rfl, rfl⟩)
    go_ret2
    exact ⟨rfl, by (repeat (first | with_reducible (exact Since.refl _) | with_reducible assumption | with_reducible (refine Since.drew ?_) | with_reducible (refine Since.drewN ?_ _) | with_reducible (refine Since.alloc ?_ _) | (with_reducible (refine Since.setCell ?_ ?_ _); rotate_left; focus (first | (simp; done) | (simp; omega) | omega)) | (with_reducible (refine Since.trans ?_ (by with_reducible assumption)))))⟩
  · have hgf : (goodB x y && goodB u v && goodB p q) = false := by simpa using hgg
    rw [hgf] at hg ⊢
    have HG := Lib.hid hg
    clear hg hgg hgf
    simp only [okE]
    unfold Pt
    go_enter Try.func128, Try.ntmps128
    go_wp2_with (go_at_call 59; (with_reducible refine (HG.out _ _ (by simp) _).mono ?_); rintro e w1 ⟨rfl, hS1⟩)
    go_ret2
    exact ⟨rfl, by (repeat (first | with_reducible (exact Since.refl _) | with_reducible assumption | with_reducible (refine Since.drew ?_) | with_reducible (refine Since.drewN ?_ _) | with_reducible (refine Since.alloc ?_ _) | (with_reducible (refine Since.setCell ?_ ?_ _); rotate_left; focus (first | (simp; done) | (simp; omega) | omega)) | (with_reducible (refine Since.trans ?_ (by with_reducible assumption)))))⟩
end Go.Proofs.Ytckochcocflleaa
