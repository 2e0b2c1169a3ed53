/-
  No cell of these rows narrows 'for every input' (looked for: loops, veiled, ifaces, maps, wideKeys, modest, calm, conditions, laid).
  DERIVED. THE GIVEN ROWS OF THIS SEAT. 12 by the template 'for every input the law returns true; each argument reads behind the call as it read before'; 0 by the template 'total and deterministic' (their statements: YtbbbojhncfdbdaaTotals.lean).
  GIVEN WITH THE SEED: the statements are not yours to turn. If you find one false, say at which input.
  Laid BY PROGRAM, IN A SANDBOX (cutbox-rows.mjs): the forced cells as the released guide's own fill.sh prints them over the translation 25e5cc102fff2d69… (all of the seat's roots in one cut). By AI agents, Wed Nov 11 2026. No macro, syntax, notation, axiom, sorry.
-/
import Derived.Test.YtbbbojhncfdbdaaChecked
import GoSem.Claim
import GoSem.ClaimJoined
import GoSem.ClaimMapViews
import Derived.JoinedTies
import Derived.KernelRfl
namespace Go.Proofs.Ytbbbojhncfdbdaa
/- THE CELL 'sum', in the pinned program and in every row, IS THE sha256 OF THE DUMP (.gsa) THAT YtbbbojhncfdbdaaProg.lean LOADS. Nothing in Lean hashes anything: it is a label: what it is worth is what the hold of that sum in a sandbox is worth. -/
noncomputable def Try.pinned : Pinned := { name := "ytbbbojhncfdbdaa", sum := "25e5cc102fff2d6987921a32ffa96ed6a40059762a104b8907ff5aa2108bb48e", checked := Try.checked }
namespace Rows
def none {H : Type} : Left H := { results := [], args := [] }

/-- 'calamuslaw10.GaussProducts': WHATEVER THE INPUT: true; the input reads as it did. -/
def gaussProductsSpec : ChangeSpec := { name := "gaussProducts", fn := fun _ => fun
  | [d1, d2] => { results := [.lit (.bool true)], args := [d1, d2] }
  | _ => none }
def gaussProductsRow : OpenClaim := { program := "ytbbbojhncfdbdaa", sum := "25e5cc102fff2d6987921a32ffa96ed6a40059762a104b8907ff5aa2108bb48e", func := "calamus/calamuslaw10.GaussProducts", spec := "gaussProducts", apart := false }
def GaussProductsSaid : Prop := gaussProductsRow.holds Try.pinned (OpenSpec.ofChange gaussProductsSpec)

/-- ITS FALSE NEIGHBOUR: 'it returns false'. Refute it at one input. -/
def gaussProductsWrong : ChangeSpec := { name := "gaussProducts", fn := fun _ => fun
  | [d1, d2] => { results := [.lit (.bool false)], args := [d1, d2] }
  | _ => none }
def GaussProductsWrongFalsely : Prop := gaussProductsRow.holds Try.pinned (OpenSpec.ofChange gaussProductsWrong)

/-- 'calamuslaw10.GaussTurns': WHATEVER THE INPUT: true; the input reads as it did. -/
def gaussTurnsSpec : ChangeSpec := { name := "gaussTurns", fn := fun _ => fun
  | [d1, d2] => { results := [.lit (.bool true)], args := [d1, d2] }
  | _ => none }
def gaussTurnsRow : OpenClaim := { program := "ytbbbojhncfdbdaa", sum := "25e5cc102fff2d6987921a32ffa96ed6a40059762a104b8907ff5aa2108bb48e", func := "calamus/calamuslaw10.GaussTurns", spec := "gaussTurns", apart := false }
def GaussTurnsSaid : Prop := gaussTurnsRow.holds Try.pinned (OpenSpec.ofChange gaussTurnsSpec)

/-- ITS FALSE NEIGHBOUR: 'it returns false'. Refute it at one input. -/
def gaussTurnsWrong : ChangeSpec := { name := "gaussTurns", fn := fun _ => fun
  | [d1, d2] => { results := [.lit (.bool false)], args := [d1, d2] }
  | _ => none }
def GaussTurnsWrongFalsely : Prop := gaussTurnsRow.holds Try.pinned (OpenSpec.ofChange gaussTurnsWrong)

/-- 'calamuslaw10.GaussAreas': WHATEVER THE INPUT: true; the input reads as it did. -/
def gaussAreasSpec : ChangeSpec := { name := "gaussAreas", fn := fun _ => fun
  | [d] => { results := [.lit (.bool true)], args := [d] }
  | _ => none }
def gaussAreasRow : OpenClaim := { program := "ytbbbojhncfdbdaa", sum := "25e5cc102fff2d6987921a32ffa96ed6a40059762a104b8907ff5aa2108bb48e", func := "calamus/calamuslaw10.GaussAreas", spec := "gaussAreas", apart := false }
def GaussAreasSaid : Prop := gaussAreasRow.holds Try.pinned (OpenSpec.ofChange gaussAreasSpec)

/-- ITS FALSE NEIGHBOUR: 'it returns false'. Refute it at one input. -/
def gaussAreasWrong : ChangeSpec := { name := "gaussAreas", fn := fun _ => fun
  | [d] => { results := [.lit (.bool false)], args := [d] }
  | _ => none }
def GaussAreasWrongFalsely : Prop := gaussAreasRow.holds Try.pinned (OpenSpec.ofChange gaussAreasWrong)

/-- 'calamuslaw10.GaussLaws': WHATEVER THE INPUT: true; the input reads as it did. -/
def gaussLawsSpec : ChangeSpec := { name := "gaussLaws", fn := fun _ => fun
  | [d1, d2] => { results := [.lit (.bool true)], args := [d1, d2] }
  | _ => none }
def gaussLawsRow : OpenClaim := { program := "ytbbbojhncfdbdaa", sum := "25e5cc102fff2d6987921a32ffa96ed6a40059762a104b8907ff5aa2108bb48e", func := "calamus/calamuslaw10.GaussLaws", spec := "gaussLaws", apart := false }
def GaussLawsSaid : Prop := gaussLawsRow.holds Try.pinned (OpenSpec.ofChange gaussLawsSpec)

/-- ITS FALSE NEIGHBOUR: 'it returns false'. Refute it at one input. -/
def gaussLawsWrong : ChangeSpec := { name := "gaussLaws", fn := fun _ => fun
  | [d1, d2] => { results := [.lit (.bool false)], args := [d1, d2] }
  | _ => none }
def GaussLawsWrongFalsely : Prop := gaussLawsRow.holds Try.pinned (OpenSpec.ofChange gaussLawsWrong)

/-- 'calamuslaw10.GaussMoves': WHATEVER THE INPUT: true; the input reads as it did. -/
def gaussMovesSpec : ChangeSpec := { name := "gaussMoves", fn := fun _ => fun
  | [d1, d2, d3] => { results := [.lit (.bool true)], args := [d1, d2, d3] }
  | _ => none }
def gaussMovesRow : OpenClaim := { program := "ytbbbojhncfdbdaa", sum := "25e5cc102fff2d6987921a32ffa96ed6a40059762a104b8907ff5aa2108bb48e", func := "calamus/calamuslaw10.GaussMoves", spec := "gaussMoves", apart := false }
def GaussMovesSaid : Prop := gaussMovesRow.holds Try.pinned (OpenSpec.ofChange gaussMovesSpec)

/-- ITS FALSE NEIGHBOUR: 'it returns false'. Refute it at one input. -/
def gaussMovesWrong : ChangeSpec := { name := "gaussMoves", fn := fun _ => fun
  | [d1, d2, d3] => { results := [.lit (.bool false)], args := [d1, d2, d3] }
  | _ => none }
def GaussMovesWrongFalsely : Prop := gaussMovesRow.holds Try.pinned (OpenSpec.ofChange gaussMovesWrong)

/-- 'calamuslaw10.GaussWays': WHATEVER THE INPUT: true; the input reads as it did. -/
def gaussWaysSpec : ChangeSpec := { name := "gaussWays", fn := fun _ => fun
  | [d1, d2, d3] => { results := [.lit (.bool true)], args := [d1, d2, d3] }
  | _ => none }
def gaussWaysRow : OpenClaim := { program := "ytbbbojhncfdbdaa", sum := "25e5cc102fff2d6987921a32ffa96ed6a40059762a104b8907ff5aa2108bb48e", func := "calamus/calamuslaw10.GaussWays", spec := "gaussWays", apart := false }
def GaussWaysSaid : Prop := gaussWaysRow.holds Try.pinned (OpenSpec.ofChange gaussWaysSpec)

/-- ITS FALSE NEIGHBOUR: 'it returns false'. Refute it at one input. -/
def gaussWaysWrong : ChangeSpec := { name := "gaussWays", fn := fun _ => fun
  | [d1, d2, d3] => { results := [.lit (.bool false)], args := [d1, d2, d3] }
  | _ => none }
def GaussWaysWrongFalsely : Prop := gaussWaysRow.holds Try.pinned (OpenSpec.ofChange gaussWaysWrong)

/-- 'calamuslaw13.QuadAt': WHATEVER THE INPUT: true; the input reads as it did. -/
def quadAtSpec : ChangeSpec := { name := "quadAt", fn := fun _ => fun
  | [d1, d2, d3] => { results := [.lit (.bool true)], args := [d1, d2, d3] }
  | _ => none }
def quadAtRow : OpenClaim := { program := "ytbbbojhncfdbdaa", sum := "25e5cc102fff2d6987921a32ffa96ed6a40059762a104b8907ff5aa2108bb48e", func := "calamus/calamuslaw13.QuadAt", spec := "quadAt", unfollowed := true, recurses := true, apart := false }
def QuadAtSaid : Prop := quadAtRow.holds Try.pinned (OpenSpec.ofChange quadAtSpec)

/-- ITS FALSE NEIGHBOUR: 'it returns false'. Refute it at one input. -/
def quadAtWrong : ChangeSpec := { name := "quadAt", fn := fun _ => fun
  | [d1, d2, d3] => { results := [.lit (.bool false)], args := [d1, d2, d3] }
  | _ => none }
def QuadAtWrongFalsely : Prop := quadAtRow.holds Try.pinned (OpenSpec.ofChange quadAtWrong)

/-- 'calamuslaw13.QuadSplits': WHATEVER THE INPUT: true; the input reads as it did. -/
def quadSplitsSpec : ChangeSpec := { name := "quadSplits", fn := fun _ => fun
  | [d] => { results := [.lit (.bool true)], args := [d] }
  | _ => none }
def quadSplitsRow : OpenClaim := { program := "ytbbbojhncfdbdaa", sum := "25e5cc102fff2d6987921a32ffa96ed6a40059762a104b8907ff5aa2108bb48e", func := "calamus/calamuslaw13.QuadSplits", spec := "quadSplits", unfollowed := true, recurses := true, apart := false }
def QuadSplitsSaid : Prop := quadSplitsRow.holds Try.pinned (OpenSpec.ofChange quadSplitsSpec)

/-- ITS FALSE NEIGHBOUR: 'it returns false'. Refute it at one input. -/
def quadSplitsWrong : ChangeSpec := { name := "quadSplits", fn := fun _ => fun
  | [d] => { results := [.lit (.bool false)], args := [d] }
  | _ => none }
def QuadSplitsWrongFalsely : Prop := quadSplitsRow.holds Try.pinned (OpenSpec.ofChange quadSplitsWrong)

/-- 'calamuslaw13.QuadBends': WHATEVER THE INPUT: true; the input reads as it did. -/
def quadBendsSpec : ChangeSpec := { name := "quadBends", fn := fun _ => fun
  | [d] => { results := [.lit (.bool true)], args := [d] }
  | _ => none }
def quadBendsRow : OpenClaim := { program := "ytbbbojhncfdbdaa", sum := "25e5cc102fff2d6987921a32ffa96ed6a40059762a104b8907ff5aa2108bb48e", func := "calamus/calamuslaw13.QuadBends", spec := "quadBends", unfollowed := true, recurses := true, apart := false }
def QuadBendsSaid : Prop := quadBendsRow.holds Try.pinned (OpenSpec.ofChange quadBendsSpec)

/-- ITS FALSE NEIGHBOUR: 'it returns false'. Refute it at one input. -/
def quadBendsWrong : ChangeSpec := { name := "quadBends", fn := fun _ => fun
  | [d] => { results := [.lit (.bool false)], args := [d] }
  | _ => none }
def QuadBendsWrongFalsely : Prop := quadBendsRow.holds Try.pinned (OpenSpec.ofChange quadBendsWrong)

/-- 'calamuslaw13.QuadHalves': WHATEVER THE INPUT: true; the input reads as it did. -/
def quadHalvesSpec : ChangeSpec := { name := "quadHalves", fn := fun _ => fun
  | [d1, d2, d3] => { results := [.lit (.bool true)], args := [d1, d2, d3] }
  | _ => none }
def quadHalvesRow : OpenClaim := { program := "ytbbbojhncfdbdaa", sum := "25e5cc102fff2d6987921a32ffa96ed6a40059762a104b8907ff5aa2108bb48e", func := "calamus/calamuslaw13.QuadHalves", spec := "quadHalves", unfollowed := true, recurses := true, apart := false }
def QuadHalvesSaid : Prop := quadHalvesRow.holds Try.pinned (OpenSpec.ofChange quadHalvesSpec)

/-- ITS FALSE NEIGHBOUR: 'it returns false'. Refute it at one input. -/
def quadHalvesWrong : ChangeSpec := { name := "quadHalves", fn := fun _ => fun
  | [d1, d2, d3] => { results := [.lit (.bool false)], args := [d1, d2, d3] }
  | _ => none }
def QuadHalvesWrongFalsely : Prop := quadHalvesRow.holds Try.pinned (OpenSpec.ofChange quadHalvesWrong)

/-- 'calamuslaw13.QuadHull': WHATEVER THE INPUT: true; the input reads as it did. -/
def quadHullSpec : ChangeSpec := { name := "quadHull", fn := fun _ => fun
  | [d1, d2, d3] => { results := [.lit (.bool true)], args := [d1, d2, d3] }
  | _ => none }
def quadHullRow : OpenClaim := { program := "ytbbbojhncfdbdaa", sum := "25e5cc102fff2d6987921a32ffa96ed6a40059762a104b8907ff5aa2108bb48e", func := "calamus/calamuslaw13.QuadHull", spec := "quadHull", unfollowed := true, recurses := true, apart := false }
def QuadHullSaid : Prop := quadHullRow.holds Try.pinned (OpenSpec.ofChange quadHullSpec)

/-- ITS FALSE NEIGHBOUR: 'it returns false'. Refute it at one input. -/
def quadHullWrong : ChangeSpec := { name := "quadHull", fn := fun _ => fun
  | [d1, d2, d3] => { results := [.lit (.bool false)], args := [d1, d2, d3] }
  | _ => none }
def QuadHullWrongFalsely : Prop := quadHullRow.holds Try.pinned (OpenSpec.ofChange quadHullWrong)

/-- 'calamuslaw13.QuadNear': WHATEVER THE INPUT: true; the input reads as it did. -/
def quadNearSpec : ChangeSpec := { name := "quadNear", fn := fun _ => fun
  | [d1, d2] => { results := [.lit (.bool true)], args := [d1, d2] }
  | _ => none }
def quadNearRow : OpenClaim := { program := "ytbbbojhncfdbdaa", sum := "25e5cc102fff2d6987921a32ffa96ed6a40059762a104b8907ff5aa2108bb48e", func := "calamus/calamuslaw13.QuadNear", spec := "quadNear", unfollowed := true, recurses := true, apart := false }
def QuadNearSaid : Prop := quadNearRow.holds Try.pinned (OpenSpec.ofChange quadNearSpec)

/-- ITS FALSE NEIGHBOUR: 'it returns false'. Refute it at one input. -/
def quadNearWrong : ChangeSpec := { name := "quadNear", fn := fun _ => fun
  | [d1, d2] => { results := [.lit (.bool false)], args := [d1, d2] }
  | _ => none }
def QuadNearWrongFalsely : Prop := quadNearRow.holds Try.pinned (OpenSpec.ofChange quadNearWrong)

/- THE SECOND FORM. 'bulk': how many values and letters a reading holds, each counted each time it is reached (what is shared counts as often as it is met; a slice's spare places count too). A statement '..UptoSaid' is the law's where the arguments, and the package variables that the reading takes, are together of bulk at most 1048576: NARROWER than '..Said'. Prove '..Said' where nothing that the law and all that it calls make is longer than what came in: it says more and counts as full. Else prove '..UptoSaid'. A law counts once. -/
mutual
def uptoBulk {H : Type} : DataW H → Nat
  | .lit (.string bytes) => bytes.length + 1
  | .lit _ => 1
  | .nil => 1
  | .ptr d => uptoBulk d + 1
  | .slice elems spare => uptoBulkAll elems + uptoBulkAll spare + 1
  | .agg parts => uptoBulkAll parts + 1
  | .iface _ d => uptoBulk d + 1
  | .map entries => uptoBulkEntries entries + 1
  | .held _ => 1
def uptoBulkAll {H : Type} : List (DataW H) → Nat
  | [] => 0
  | d :: r => uptoBulk d + uptoBulkAll r
def uptoBulkEntries {H : Type} : List (Lit × DataW H) → Nat
  | [] => 0
  | x :: r => uptoBulkEntry x + uptoBulkEntries r
def uptoBulkEntry {H : Type} : Lit × DataW H → Nat
  | (.string bytes, d) => bytes.length + uptoBulk d + 1
  | (_, d) => uptoBulk d + 1
 end
def uptoSmall : (H : Type) → List (DataW H) → Bool := fun _ ds => decide (uptoBulkAll ds ≤ 1048576)
def OpenSpec.upto (s : _root_.Go.ChangeSpec) : _root_.Go.OpenSpec := { _root_.Go.OpenSpec.ofChange s with cond := some uptoSmall }

/-- 'calamuslaw10.GaussProducts', WHERE WHAT IT READS IS OF BULK AT MOST 1048576: true; the input reads as it did. -/
def gaussProductsUptoRow : OpenClaim := { program := "ytbbbojhncfdbdaa", sum := "25e5cc102fff2d6987921a32ffa96ed6a40059762a104b8907ff5aa2108bb48e", func := "calamus/calamuslaw10.GaussProducts", spec := "gaussProducts", apart := false, narrowed := true }
def GaussProductsUptoSaid : Prop := gaussProductsUptoRow.holds Try.pinned (OpenSpec.upto gaussProductsSpec)

/-- 'calamuslaw10.GaussTurns', WHERE WHAT IT READS IS OF BULK AT MOST 1048576: true; the input reads as it did. -/
def gaussTurnsUptoRow : OpenClaim := { program := "ytbbbojhncfdbdaa", sum := "25e5cc102fff2d6987921a32ffa96ed6a40059762a104b8907ff5aa2108bb48e", func := "calamus/calamuslaw10.GaussTurns", spec := "gaussTurns", apart := false, narrowed := true }
def GaussTurnsUptoSaid : Prop := gaussTurnsUptoRow.holds Try.pinned (OpenSpec.upto gaussTurnsSpec)

/-- 'calamuslaw10.GaussAreas', WHERE WHAT IT READS IS OF BULK AT MOST 1048576: true; the input reads as it did. -/
def gaussAreasUptoRow : OpenClaim := { program := "ytbbbojhncfdbdaa", sum := "25e5cc102fff2d6987921a32ffa96ed6a40059762a104b8907ff5aa2108bb48e", func := "calamus/calamuslaw10.GaussAreas", spec := "gaussAreas", apart := false, narrowed := true }
def GaussAreasUptoSaid : Prop := gaussAreasUptoRow.holds Try.pinned (OpenSpec.upto gaussAreasSpec)

/-- 'calamuslaw10.GaussLaws', WHERE WHAT IT READS IS OF BULK AT MOST 1048576: true; the input reads as it did. -/
def gaussLawsUptoRow : OpenClaim := { program := "ytbbbojhncfdbdaa", sum := "25e5cc102fff2d6987921a32ffa96ed6a40059762a104b8907ff5aa2108bb48e", func := "calamus/calamuslaw10.GaussLaws", spec := "gaussLaws", apart := false, narrowed := true }
def GaussLawsUptoSaid : Prop := gaussLawsUptoRow.holds Try.pinned (OpenSpec.upto gaussLawsSpec)

/-- 'calamuslaw10.GaussMoves', WHERE WHAT IT READS IS OF BULK AT MOST 1048576: true; the input reads as it did. -/
def gaussMovesUptoRow : OpenClaim := { program := "ytbbbojhncfdbdaa", sum := "25e5cc102fff2d6987921a32ffa96ed6a40059762a104b8907ff5aa2108bb48e", func := "calamus/calamuslaw10.GaussMoves", spec := "gaussMoves", apart := false, narrowed := true }
def GaussMovesUptoSaid : Prop := gaussMovesUptoRow.holds Try.pinned (OpenSpec.upto gaussMovesSpec)

/-- 'calamuslaw10.GaussWays', WHERE WHAT IT READS IS OF BULK AT MOST 1048576: true; the input reads as it did. -/
def gaussWaysUptoRow : OpenClaim := { program := "ytbbbojhncfdbdaa", sum := "25e5cc102fff2d6987921a32ffa96ed6a40059762a104b8907ff5aa2108bb48e", func := "calamus/calamuslaw10.GaussWays", spec := "gaussWays", apart := false, narrowed := true }
def GaussWaysUptoSaid : Prop := gaussWaysUptoRow.holds Try.pinned (OpenSpec.upto gaussWaysSpec)

/-- 'calamuslaw13.QuadAt', WHERE WHAT IT READS IS OF BULK AT MOST 1048576: true; the input reads as it did. -/
def quadAtUptoRow : OpenClaim := { program := "ytbbbojhncfdbdaa", sum := "25e5cc102fff2d6987921a32ffa96ed6a40059762a104b8907ff5aa2108bb48e", func := "calamus/calamuslaw13.QuadAt", spec := "quadAt", unfollowed := true, recurses := true, apart := false, narrowed := true }
def QuadAtUptoSaid : Prop := quadAtUptoRow.holds Try.pinned (OpenSpec.upto quadAtSpec)

/-- 'calamuslaw13.QuadSplits', WHERE WHAT IT READS IS OF BULK AT MOST 1048576: true; the input reads as it did. -/
def quadSplitsUptoRow : OpenClaim := { program := "ytbbbojhncfdbdaa", sum := "25e5cc102fff2d6987921a32ffa96ed6a40059762a104b8907ff5aa2108bb48e", func := "calamus/calamuslaw13.QuadSplits", spec := "quadSplits", unfollowed := true, recurses := true, apart := false, narrowed := true }
def QuadSplitsUptoSaid : Prop := quadSplitsUptoRow.holds Try.pinned (OpenSpec.upto quadSplitsSpec)

/-- 'calamuslaw13.QuadBends', WHERE WHAT IT READS IS OF BULK AT MOST 1048576: true; the input reads as it did. -/
def quadBendsUptoRow : OpenClaim := { program := "ytbbbojhncfdbdaa", sum := "25e5cc102fff2d6987921a32ffa96ed6a40059762a104b8907ff5aa2108bb48e", func := "calamus/calamuslaw13.QuadBends", spec := "quadBends", unfollowed := true, recurses := true, apart := false, narrowed := true }
def QuadBendsUptoSaid : Prop := quadBendsUptoRow.holds Try.pinned (OpenSpec.upto quadBendsSpec)

/-- 'calamuslaw13.QuadHalves', WHERE WHAT IT READS IS OF BULK AT MOST 1048576: true; the input reads as it did. -/
def quadHalvesUptoRow : OpenClaim := { program := "ytbbbojhncfdbdaa", sum := "25e5cc102fff2d6987921a32ffa96ed6a40059762a104b8907ff5aa2108bb48e", func := "calamus/calamuslaw13.QuadHalves", spec := "quadHalves", unfollowed := true, recurses := true, apart := false, narrowed := true }
def QuadHalvesUptoSaid : Prop := quadHalvesUptoRow.holds Try.pinned (OpenSpec.upto quadHalvesSpec)

/-- 'calamuslaw13.QuadHull', WHERE WHAT IT READS IS OF BULK AT MOST 1048576: true; the input reads as it did. -/
def quadHullUptoRow : OpenClaim := { program := "ytbbbojhncfdbdaa", sum := "25e5cc102fff2d6987921a32ffa96ed6a40059762a104b8907ff5aa2108bb48e", func := "calamus/calamuslaw13.QuadHull", spec := "quadHull", unfollowed := true, recurses := true, apart := false, narrowed := true }
def QuadHullUptoSaid : Prop := quadHullUptoRow.holds Try.pinned (OpenSpec.upto quadHullSpec)

/-- 'calamuslaw13.QuadNear', WHERE WHAT IT READS IS OF BULK AT MOST 1048576: true; the input reads as it did. -/
def quadNearUptoRow : OpenClaim := { program := "ytbbbojhncfdbdaa", sum := "25e5cc102fff2d6987921a32ffa96ed6a40059762a104b8907ff5aa2108bb48e", func := "calamus/calamuslaw13.QuadNear", spec := "quadNear", unfollowed := true, recurses := true, apart := false, narrowed := true }
def QuadNearUptoSaid : Prop := quadNearUptoRow.holds Try.pinned (OpenSpec.upto quadNearSpec)

end Rows
end Go.Proofs.Ytbbbojhncfdbdaa
