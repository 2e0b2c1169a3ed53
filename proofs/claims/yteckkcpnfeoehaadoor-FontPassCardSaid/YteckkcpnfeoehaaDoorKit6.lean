/-
  What the second form's premise gives: bounds on lengths.
-/
import Derived.Test.YteckkcpnfeoehaaDoorMnAa
import Derived.JoinedCond
namespace Go.Proofs.YteckkcpnfeoehaaDoor
set_option maxRecDepth 100000
end Go.Proofs.YteckkcpnfeoehaaDoor
