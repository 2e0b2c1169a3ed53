/-
  Texts of this seat, put together: each with its own head.
-/
import Derived.Test.YtcjjcjpkmjbfkaaMhD
import Derived.Laws.StructEq

/-
  Layer 10: 'Quarter', walked; the reference's small functions, walked.
-/
namespace Go.Proofs.Ytcjjcjpkmjbfkaa
open Go.RowKit
set_option linter.unusedVariables false

/-- A point turned by quarters. -/
def qu (x y : Int) : Nat → Int × Int
  | 0 => (x, y)
  | k + 1 => (-(qu x y k).2, (qu x y k).1)
theorem qu_near {x y : Int} {B : Int} (hx : -B ≤ x ∧ x ≤ B) (hy : -B ≤ y ∧ y ≤ B) : ∀ k, (-B ≤ (qu x y k).1 ∧ (qu x y k).1 ≤ B) ∧ (-B ≤ (qu x y k).2 ∧ (qu x y k).2 ≤ B)
  | 0 => ⟨hx, hy⟩
  | k + 1 => by
    have h := qu_near hx hy k
    simp only [qu]
    omega
theorem and_three (n : Int) : bits .and .i64 n 3 = ((n % 4).toNat : Int) := by
  show IntKind.i64.wrap ((BitVec.ofInt 64 n &&& BitVec.ofInt 64 3).toNat : Int) = _
  rw [BitVec.toNat_and, show (BitVec.ofInt 64 3).toNat = 2 ^ 2 - 1 from rfl, Nat.and_two_pow_sub_one_eq_mod, BitVec.toNat_ofInt, IntKind.wrap_i64]
  omega
def resQ (x y : Int) (n : Int) : Int × Int := qu x y (n % 4).toNat

end Go.Proofs.Ytcjjcjpkmjbfkaa

/-
  Layer 10: the reference's functions, walked.
-/
namespace Go.Proofs.Ytcjjcjpkmjbfkaa
open Go.RowKit
set_option linter.unusedVariables false

theorem eq_pt (w : World) (x y u v : Int) : (Op.equalIn 10000 47 (.agg #[.int .i64 x, .int .i64 y]) (.agg #[.int .i64 u, .int .i64 v])).run Try.prog w = .ok (x == u && y == v) w := by
  rw [run_equalIn_struct w 9999 47 _ _ (by kernel_rfl) (by kernel_rfl)]
  have heq : ∀ (d : Nat) (a b : Int) (w : World), (Op.equalIn (d + 1) 3 (.int .i64 a) (.int .i64 b)).run Try.prog w = .ok (a == b) w := fun d a b w => run_equalIn_int w d _ _ _ a b Try.underlying3
  have hc : Try.prog.cellsOf 3 = 1 := by kernel_rfl
  simp only [Program.fieldsOf, Try.underlying47]
  by_cases h0 : x = u
  · by_cases h1 : y = v
    · simp [go_sem, h0, h1]
    · simp [go_sem, h0, h1]
  · simp [go_sem, h0]
attribute [go_sem] eq_pt

set_option maxHeartbeats 4000000 in
theorem rf_good (x y : Int) (w : World) :
    Calls Try.prog 39 #[Pt x y] w fun e w' => e = .returned (.bool (goodB x y)) ∧ Since w w' := by
  unfold Pt
  by_cases hy : y ≤ 4194304
  all_goals
    go_enter Try.func39, Try.ntmps39
    go_wp2
    all_goals
      go_ret
      refine ⟨?_, by (repeat (first | with_reducible (exact Since.refl _) | with_reducible assumption | with_reducible (refine Since.drew ?_) | with_reducible (refine Since.drewN ?_ _) | with_reducible (refine Since.alloc ?_ _) | (with_reducible (refine Since.setCell ?_ ?_ _); rotate_left; focus (first | (simp; done) | (simp; omega) | omega)) | (with_reducible (refine Since.trans ?_ (by with_reducible assumption)))))⟩
      first
        | (rw [show goodB x y = true from goodB_iff.2 (by simp_all)]; simp_all; done)
        | (rw [show goodB x y = false by (unfold goodB; rw [decide_eq_false_iff_not]; simp_all; try omega)]; simp_all; done)
        | trace_state
end Go.Proofs.Ytcjjcjpkmjbfkaa
