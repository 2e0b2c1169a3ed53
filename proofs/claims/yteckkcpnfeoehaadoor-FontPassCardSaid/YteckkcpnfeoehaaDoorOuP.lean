/-
  A slice of knots that came in.
-/
import Derived.Test.YteckkcpnfeoehaaDoorMnAf
import Derived.Test.YteckkcpnfeoehaaDoorMnAb
import Derived.Test.YteckkcpnfeoehaaDoorMnAa
namespace Go.Proofs.YteckkcpnfeoehaaDoor
set_option maxRecDepth 100000
open Go.RowKit Go.ChangeShapes Go.WideShapes Go.Deep
set_option linter.unusedVariables false
section
variable {H : Type} {enc : TypeId × Value → H} {P : Program} {W : World}
end
end Go.Proofs.YteckkcpnfeoehaaDoor
