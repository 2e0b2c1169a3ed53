/-
  Layer 15's document: 'Meet' of any two good lines.
-/
import Derived.Test.YtckochcocflleaaGreatRmD
import Derived.Test.YtckochcocflleaaGreatRmE
namespace Go.Proofs.YtckochcocflleaaGreat
open Go.RowKit
set_option linter.unusedVariables false

theorem rf15_meet (s t : Ln) (hs : lnG s = true) (ht : lnG t = true) (w : World) :
    Calls Tryz.prog 24 #[s.v, t.v] w fun e w' => e = .returned (RP (meetG s t)) ∧ Since w w' := by
  rw [← meetN_eq]
  by_cases h : cC s t = 0
  · exact rf15_meet_zero s t hs ht h w
  · exact rf15_meet_cross s t hs ht h w
end Go.Proofs.YtckochcocflleaaGreat
