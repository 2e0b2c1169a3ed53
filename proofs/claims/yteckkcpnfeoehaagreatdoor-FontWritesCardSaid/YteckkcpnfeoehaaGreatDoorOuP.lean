/-
  A slice of knots that came in.
-/
import Derived.Test.YteckkcpnfeoehaaGreatDoorMnAf
import Derived.Test.YteckkcpnfeoehaaGreatDoorMnAb
import Derived.Test.YteckkcpnfeoehaaGreatDoorMnAa
namespace Go.Proofs.YteckkcpnfeoehaaGreatDoor
set_option maxRecDepth 100000
open Go.RowKit Go.ChangeShapes Go.WideShapes Go.Deep
set_option linter.unusedVariables false
section
variable {H : Type} {enc : TypeId × Value → H} {P : Program} {W : World}
end
end Go.Proofs.YteckkcpnfeoehaaGreatDoor
