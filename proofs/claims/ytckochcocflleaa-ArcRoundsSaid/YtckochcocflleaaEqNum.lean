/-
  Two rows of eight digits are held against each other.
-/
import Derived.Test.YtckochcocflleaaRefA
import Derived.ChangeKeysEq
namespace Go.Proofs.Ytckochcocflleaa
open Go.RowKit
set_option linter.unusedVariables false

theorem eq_num (w : World) (x0 x1 x2 x3 x4 x5 x6 x7 y0 y1 y2 y3 y4 y5 y6 y7 : Int) :
    (Op.equalIn 10000 75 (.agg #[.int .u32 x0, .int .u32 x1, .int .u32 x2, .int .u32 x3, .int .u32 x4, .int .u32 x5, .int .u32 x6, .int .u32 x7]) (.agg #[.int .u32 y0, .int .u32 y1, .int .u32 y2, .int .u32 y3, .int .u32 y4, .int .u32 y5, .int .u32 y6, .int .u32 y7])).run Try.prog w =
      .ok (x0 == y0 && (x1 == y1 && (x2 == y2 && (x3 == y3 && (x4 == y4 && (x5 == y5 && (x6 == y6 && x7 == y7))))))) w := by
  obtain ⟨i, hi⟩ : ∃ i, Try.prog.info? 66 = some i := Option.isSome_iff_exists.1 (by kernel_rfl)
  rw [run_equalIn_array w 9999 (e := 66) (n := 8) (i := i) _ _ Try.underlying75 hi]
  have hc : Try.prog.cellsOf 66 = 1 := by kernel_rfl
  rw [hc]
  have hl : List.range 8 = [0, 1, 2, 3, 4, 5, 6, 7] := rfl
  rw [hl]
  have heq : ∀ (d : Nat) (a b : Int), (Op.equalIn (d + 1) 66 (.int .u32 a) (.int .u32 b)).run Try.prog w = .ok (a == b) w := fun d a b => run_equalIn_int w d _ _ _ a b Try.underlying66
  simp only [Op.eqItems]
  by_cases h0 : x0 = y0
  · by_cases h1 : x1 = y1
    · by_cases h2 : x2 = y2
      · by_cases h3 : x3 = y3
        · by_cases h4 : x4 = y4
          · by_cases h5 : x5 = y5
            · by_cases h6 : x6 = y6
              · by_cases h7 : x7 = y7
                · simp [go_sem, h0, h1, h2, h3, h4, h5, h6, h7]
                · simp [go_sem, h0, h1, h2, h3, h4, h5, h6, h7]
              · simp [go_sem, h0, h1, h2, h3, h4, h5, h6]
            · simp [go_sem, h0, h1, h2, h3, h4, h5]
          · simp [go_sem, h0, h1, h2, h3, h4]
        · simp [go_sem, h0, h1, h2, h3]
      · simp [go_sem, h0, h1, h2]
    · simp [go_sem, h0, h1]
  · simp [go_sem, h0]
attribute [go_sem] eq_num
end Go.Proofs.Ytckochcocflleaa
