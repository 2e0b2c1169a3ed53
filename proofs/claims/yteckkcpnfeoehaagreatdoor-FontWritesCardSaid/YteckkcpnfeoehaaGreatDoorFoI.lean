/-
  Layer 9: Sync of the program, walked.
-/
import Derived.Test.YteckkcpnfeoehaaGreatDoorMpT
namespace Go.Proofs.YteckkcpnfeoehaaGreatDoor
set_option maxRecDepth 100000
open Go.RowKit Go.ChangeShapes Go.WideShapes Go.Deep
set_option linter.unusedVariables false
set_option linter.unusedSimpArgs false

@[go_sem] theorem iz0s (a b c : Value) (w : World) : (Instr.index 82 (.agg #[a, b, c]) (.int .i64 0)).run Tryz.prog w = .ok a w := by rfl
@[go_sem] theorem iz1s (a b c : Value) (w : World) : (Instr.index 82 (.agg #[a, b, c]) (.int .i64 1)).run Tryz.prog w = .ok b w := by rfl
@[go_sem] theorem iz2s (a b c : Value) (w : World) : (Instr.index 82 (.agg #[a, b, c]) (.int .i64 2)).run Tryz.prog w = .ok c w := by rfl
end Go.Proofs.YteckkcpnfeoehaaGreatDoor
