/-
  What the second form's premise gives: bounds on lengths.
-/
import Derived.Test.YteckkcpnfeoehaaGreatDoorMnAa
import Derived.JoinedCond
namespace Go.Proofs.YteckkcpnfeoehaaGreatDoor
set_option maxRecDepth 100000
end Go.Proofs.YteckkcpnfeoehaaGreatDoor
