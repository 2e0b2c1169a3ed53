/-
  Texts of this seat, put together: each with its own head.
-/
import Derived.Test.YteckkcpnfeoehaaGreatDoorMnAg
import Derived.Test.YteckkcpnfeoehaaGreatDoorMnAa
import Derived.StillTailTactics
import Derived.Test.YteckkcpnfeoehaaGreatDoorMnAd

/-
  Layer 3: the document's examples; the laws TabsumIs, TabsumPads, TabsumTurns, walked.
-/
namespace Go.Proofs.YteckkcpnfeoehaaGreatDoor
set_option maxRecDepth 100000
open Go.RowKit
set_option linter.unusedVariables false

end Go.Proofs.YteckkcpnfeoehaaGreatDoor

/-
  append(s, make([]T, n)...): the compiler lets it make no slice: noughts are laid behind a row of the call's own.
-/
namespace Go.Proofs.YteckkcpnfeoehaaGreatDoor
set_option maxRecDepth 100000
open Go.RowKit
set_option linter.unusedVariables false
set_option linter.unusedSimpArgs false
section
variable {P : Program} (w : World)
end
end Go.Proofs.YteckkcpnfeoehaaGreatDoor

/-
  Layer 3: the laws TabsumPads and TabsumTurns, walked.
-/
namespace Go.Proofs.YteckkcpnfeoehaaGreatDoor
set_option maxRecDepth 100000
open Go.RowKit
set_option linter.unusedVariables false

def catG (n : Nat) (f o : Nat → Int) (j : Nat) : Int := if j < n then f j else o (j - n)
end Go.Proofs.YteckkcpnfeoehaaGreatDoor

/-
  Layer 3: the law TabsumAdjusts, walked.
-/
namespace Go.Proofs.YteckkcpnfeoehaaGreatDoor
set_option maxRecDepth 100000
open Go.RowKit
set_option linter.unusedVariables false

/-- The bytes with a word of noughts; with the adjustment. -/
def mid (q : Nat) (f : Nat → Int) (z : Nat → Int) (o : Nat → Int) : Nat → Int := catG (q * 4 + 4) (catG (q * 4) f z) o
/-- So far the adjustment is laid. -/
def part (a : Int) (i j : Nat) : Int := if j < i then byteOf a 4 j else 0
def laid (q : Nat) (f o : Nat → Int) (a : Int) (i : Nat) : Nat → Int := mid q f (part a i) o
end Go.Proofs.YteckkcpnfeoehaaGreatDoor
