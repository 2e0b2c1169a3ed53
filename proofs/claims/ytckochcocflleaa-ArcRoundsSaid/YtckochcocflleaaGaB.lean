/-
  Layer 10: points as complex numbers, their products, walked.
-/
import Derived.Test.YtckochcocflleaaGaA
namespace Go.Proofs.Ytckochcocflleaa
open Go.RowKit
set_option linter.unusedVariables false

def fl (n : Int) : Nat := floatOfInt .f64 n
theorem fl_stands {n : Int} (h : n.natAbs ≤ 9007199254740991) : Stands (fl n) n := stands_int n (by omega)

/-- The conjugate of a + bi times c + di. -/
def inB (a b c d : Nat) : Nat × Nat := (cMulBits a (b ^^^ 9223372036854775808) c d).getD (0, 0)
def muB (a b c d : Nat) : Nat × Nat := (cMulBits a b c d).getD (0, 0)
/-- No farther from 0 than products of differences need. -/
def Near (n : Int) : Prop := -16777216 ≤ n ∧ n ≤ 16777216
theorem near_mul {p q : Int} (hp : Near p) (hq : Near q) : -281474976710656 ≤ p * q ∧ p * q ≤ 281474976710656 := by
  have h : (p * q).natAbs ≤ 281474976710656 := by
    rw [Int.natAbs_mul]
    unfold Near at hp hq
    exact Nat.le_trans (Nat.mul_le_mul (show p.natAbs ≤ 16777216 by omega) (show q.natAbs ≤ 16777216 by omega)) (by decide)
  omega
theorem mul_stands {a b c d : Nat} {p q r s : Int} (ha : Stands a p) (hb : Stands b q) (hc : Stands c r) (hd : Stands d s) (h1 : Near p) (h2 : Near q) (h3 : Near r) (h4 : Near s) :
    ∃ re im, cMulBits a b c d = some (re, im) ∧ Stands re (p * r - q * s) ∧ Stands im (p * s + q * r) := by
  have b1 := near_mul h1 h3; have b2 := near_mul h2 h4; have b3 := near_mul h1 h4; have b4 := near_mul h2 h3
  obtain ⟨x1, e1, s1⟩ := stands_mul ha hc (by omega)
  obtain ⟨x2, e2, s2⟩ := stands_mul hb hd (by omega)
  obtain ⟨x3, e3, s3⟩ := stands_sub s1 s2 (by omega)
  obtain ⟨x4, e4, s4⟩ := stands_mul ha hd (by omega)
  obtain ⟨x5, e5, s5⟩ := stands_mul hb hc (by omega)
  obtain ⟨x6, e6, s6⟩ := stands_add s4 s5 (by omega)
  exact ⟨x3, x6, by unfold cMulBits; simp only [e1, e2, e3, e4, e5, e6, Option.bind_some], s3, s6⟩
theorem muB_stands {a b c d : Nat} {p q r s : Int} (ha : Stands a p) (hb : Stands b q) (hc : Stands c r) (hd : Stands d s) (h1 : Near p) (h2 : Near q) (h3 : Near r) (h4 : Near s) :
    cMulBits a b c d = some ((muB a b c d).1, (muB a b c d).2) ∧ Stands (muB a b c d).1 (p * r - q * s) ∧ Stands (muB a b c d).2 (p * s + q * r) := by
  obtain ⟨re, im, e, s1, s2⟩ := mul_stands ha hb hc hd h1 h2 h3 h4
  unfold muB
  rw [e]
  exact ⟨rfl, s1, s2⟩
theorem inB_stands {a b c d : Nat} {p q r s : Int} (ha : Stands a p) (hb : Stands b q) (hc : Stands c r) (hd : Stands d s) (h1 : Near p) (h2 : Near q) (h3 : Near r) (h4 : Near s) :
    cMulBits a (b ^^^ 9223372036854775808) c d = some ((inB a b c d).1, (inB a b c d).2) ∧ Stands (inB a b c d).1 (p * r + q * s) ∧ Stands (inB a b c d).2 (p * s - q * r) := by
  obtain ⟨re, im, e, s1, s2⟩ := mul_stands ha (stands_neg hb) hc hd h1 (show Near (-q) by unfold Near at *; omega) h3 h4
  unfold inB
  rw [e]
  have e1 : p * r - -q * s = p * r + q * s := by rw [Int.neg_mul, Int.sub_neg]
  have e2 : p * s + -q * r = p * s - q * r := by rw [Int.neg_mul, Int.sub_eq_add_neg]
  rw [e1] at s1
  rw [e2] at s2
  exact ⟨rfl, s1, s2⟩
theorem neg_run (b : Nat) (w : World) : (Op.unary .neg (.float .f64 b)).run Try.prog w = .ok (.float .f64 (b ^^^ 9223372036854775808)) w := by
  simp [Op.unary, Op.negFloat, FloatKind.format, Ieee.double]
theorem toInt_run {a : Nat} {x : Int} (h : Stands a x) (hx : x.natAbs < 2 ^ 53) (w : World) : (convert 114 3 (.float .f64 a)).run Try.prog w = .ok (.int .i64 x) w :=
  run_convert_float_int w 114 3 .f64 .i64 a x (by rw [Try.underlying114]; rfl) Try.underlying3 (stands_toInt h hx)

set_option maxHeartbeats 4000000 in
theorem ga_number (x y : Int) (w : World) :
    Calls Try.prog 144 #[Pt x y] w fun e w' => e = .returned (.complex .f64 (fl x) (fl y)) ∧ Since w w' := by
  unfold Pt fl
  go_enter Try.func144, Try.ntmps144
  go_wp2
  go_ret
  exact ⟨rfl, by (repeat (first | with_reducible (exact Since.refl _) | with_reducible assumption | with_reducible (refine Since.drew ?_) | with_reducible (refine Since.drewN ?_ _) | with_reducible (refine Since.alloc ?_ _) | (with_reducible (refine Since.setCell ?_ ?_ _); rotate_left; focus (first | (simp; done) | (simp; omega) | omega)) | (with_reducible (refine Since.trans ?_ (by with_reducible assumption)))))⟩
set_option maxHeartbeats 4000000 in
theorem ga_inner (a b c d : Nat) {p q r s : Int} (ha : Stands a p) (hb : Stands b q) (hc : Stands c r) (hd : Stands d s) (h1 : Near p) (h2 : Near q) (h3 : Near r) (h4 : Near s) (w : World) :
    Calls Try.prog 143 #[.complex .f64 a b, .complex .f64 c d] w fun e w' => e = .returned (.complex .f64 (inB a b c d).1 (inB a b c d).2) ∧ Since w w' := by
  have hneg := neg_run b
  have hmul := fun t w => run_complex_mul (P := Try.prog) w t a (b ^^^ 9223372036854775808) c d _ _ (inB_stands ha hb hc hd h1 h2 h3 h4).1
  generalize (inB a b c d).1 = x1 at *
  generalize (inB a b c d).2 = x2 at *
  generalize b ^^^ 9223372036854775808 = b' at *
  clear ha hb hc hd h1 h2 h3 h4
  go_enter Try.func143, Try.ntmps143
  go_wp2
  go_ret
  exact ⟨rfl, by (repeat (first | with_reducible (exact Since.refl _) | with_reducible assumption | with_reducible (refine Since.drew ?_) | with_reducible (refine Since.drewN ?_ _) | with_reducible (refine Since.alloc ?_ _) | (with_reducible (refine Since.setCell ?_ ?_ _); rotate_left; focus (first | (simp; done) | (simp; omega) | omega)) | (with_reducible (refine Since.trans ?_ (by with_reducible assumption)))))⟩
end Go.Proofs.Ytckochcocflleaa
