/-
  Layer 6: a slice of values of two whole numbers that came in.
-/
import Derived.Test.YteckkcpnfeoehaaGreatDoorMpK
namespace Go.Proofs.YteckkcpnfeoehaaGreatDoor
set_option maxRecDepth 100000
open Go.RowKit Go.ChangeShapes Go.WideShapes Go.Deep
set_option linter.unusedVariables false
def numOf : Value → Int
  | .int _ a => a
  | _ => 0
section
variable {H : Type} {enc : TypeId × Value → H} {P : Program} {W : World}
end
end Go.Proofs.YteckkcpnfeoehaaGreatDoor
