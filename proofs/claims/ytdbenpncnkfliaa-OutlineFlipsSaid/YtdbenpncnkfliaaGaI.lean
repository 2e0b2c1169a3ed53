/-
  Layer 10: the document's examples.
-/
import Derived.Test.YtdbenpncnkfliaaGaH
namespace Go.Proofs.Ytdbenpncnkfliaa
open Go.RowKit
set_option linter.unusedVariables false

theorem inP_small {x y : Int} (h : -1000000000 ≤ x ∧ x ≤ 1000000000) (k : -1000000000 ≤ y ∧ y ≤ 1000000000) : InP x y := by unfold InP In64; omega
end Go.Proofs.Ytdbenpncnkfliaa
