/-
  No cell of these rows narrows 'for every input' (looked for: loops, veiled, ifaces, maps, wideKeys, modest, calm, conditions, laid).
  DERIVED. THE GIVEN ROWS OF THIS SEAT. 12 by the template 'for every input the law returns true; each argument reads behind the call as it read before'; 0 by the template 'total and deterministic' (their statements: YtpplnapfpoloiaaTotals.lean).
  GIVEN WITH THE SEED: the statements are not yours to turn. If you find one false, say at which input.
  Laid BY PROGRAM, IN A SANDBOX (cutbox-rows.mjs): the forced cells as the released guide's own fill.sh prints them over the translation bd8b00a9cd8f1ccd… (all of the seat's roots in one cut). By AI agents, Wed Nov 11 2026. No macro, syntax, notation, axiom, sorry.
-/
import Derived.Test.YtpplnapfpoloiaaChecked
import GoSem.Claim
import GoSem.ClaimJoined
import GoSem.ClaimMapViews
import Derived.JoinedTies
import Derived.KernelRfl
namespace Go.Proofs.Ytpplnapfpoloiaa
/- THE CELL 'sum', in the pinned program and in every row, IS THE sha256 OF THE DUMP (.gsa) THAT YtpplnapfpoloiaaProg.lean LOADS. Nothing in Lean hashes anything: it is a label: what it is worth is what the hold of that sum in a sandbox is worth. -/
noncomputable def Try.pinned : Pinned := { name := "ytpplnapfpoloiaa", sum := "bd8b00a9cd8f1ccd9e2574da70608501419f2b803d59a9a09e20ad8d81989017", checked := Try.checked }
namespace Rows
def none {H : Type} : Left H := { results := [], args := [] }

/-- 'calamuslaw04.SfntWrites': WHATEVER THE INPUT: true; the input reads as it did. -/
def sfntWritesSpec : ChangeSpec := { name := "sfntWrites", fn := fun _ => fun
  | [d] => { results := [.lit (.bool true)], args := [d] }
  | _ => none }
def sfntWritesRow : OpenClaim := { program := "ytpplnapfpoloiaa", sum := "bd8b00a9cd8f1ccd9e2574da70608501419f2b803d59a9a09e20ad8d81989017", func := "calamus/calamuslaw04.SfntWrites", spec := "sfntWrites", apart := false }
def SfntWritesSaid : Prop := sfntWritesRow.holds Try.pinned (OpenSpec.ofChange sfntWritesSpec)

/-- ITS FALSE NEIGHBOUR: 'it returns false'. Refute it at one input. -/
def sfntWritesWrong : ChangeSpec := { name := "sfntWrites", fn := fun _ => fun
  | [d] => { results := [.lit (.bool false)], args := [d] }
  | _ => none }
def SfntWritesWrongFalsely : Prop := sfntWritesRow.holds Try.pinned (OpenSpec.ofChange sfntWritesWrong)

/-- 'calamuslaw04.SfntBack': WHATEVER THE INPUT: true; the input reads as it did. -/
def sfntBackSpec : ChangeSpec := { name := "sfntBack", fn := fun _ => fun
  | [d] => { results := [.lit (.bool true)], args := [d] }
  | _ => none }
def sfntBackRow : OpenClaim := { program := "ytpplnapfpoloiaa", sum := "bd8b00a9cd8f1ccd9e2574da70608501419f2b803d59a9a09e20ad8d81989017", func := "calamus/calamuslaw04.SfntBack", spec := "sfntBack", apart := false }
def SfntBackSaid : Prop := sfntBackRow.holds Try.pinned (OpenSpec.ofChange sfntBackSpec)

/-- ITS FALSE NEIGHBOUR: 'it returns false'. Refute it at one input. -/
def sfntBackWrong : ChangeSpec := { name := "sfntBack", fn := fun _ => fun
  | [d] => { results := [.lit (.bool false)], args := [d] }
  | _ => none }
def SfntBackWrongFalsely : Prop := sfntBackRow.holds Try.pinned (OpenSpec.ofChange sfntBackWrong)

/-- 'calamuslaw04.SfntMagic': WHATEVER THE INPUT: true; the input reads as it did. -/
def sfntMagicSpec : ChangeSpec := { name := "sfntMagic", fn := fun _ => fun
  | [d1, d2] => { results := [.lit (.bool true)], args := [d1, d2] }
  | _ => none }
def sfntMagicRow : OpenClaim := { program := "ytpplnapfpoloiaa", sum := "bd8b00a9cd8f1ccd9e2574da70608501419f2b803d59a9a09e20ad8d81989017", func := "calamus/calamuslaw04.SfntMagic", spec := "sfntMagic", inPlace := ["slices.overlaps[calamus/api.Table]"], unfollowed := true, recurses := true, apart := false }
def SfntMagicSaid : Prop := sfntMagicRow.holds Try.pinned (OpenSpec.ofChange sfntMagicSpec)

/-- ITS FALSE NEIGHBOUR: 'it returns false'. Refute it at one input. -/
def sfntMagicWrong : ChangeSpec := { name := "sfntMagic", fn := fun _ => fun
  | [d1, d2] => { results := [.lit (.bool false)], args := [d1, d2] }
  | _ => none }
def SfntMagicWrongFalsely : Prop := sfntMagicRow.holds Try.pinned (OpenSpec.ofChange sfntMagicWrong)

/-- 'calamuslaw04.SfntFinds': WHATEVER THE INPUT: true; the input reads as it did. -/
def sfntFindsSpec : ChangeSpec := { name := "sfntFinds", fn := fun _ => fun
  | [d1, d2] => { results := [.lit (.bool true)], args := [d1, d2] }
  | _ => none }
def sfntFindsRow : OpenClaim := { program := "ytpplnapfpoloiaa", sum := "bd8b00a9cd8f1ccd9e2574da70608501419f2b803d59a9a09e20ad8d81989017", func := "calamus/calamuslaw04.SfntFinds", spec := "sfntFinds", inPlace := ["slices.overlaps[calamus/api.Table]"], unfollowed := true, recurses := true, apart := false }
def SfntFindsSaid : Prop := sfntFindsRow.holds Try.pinned (OpenSpec.ofChange sfntFindsSpec)

/-- ITS FALSE NEIGHBOUR: 'it returns false'. Refute it at one input. -/
def sfntFindsWrong : ChangeSpec := { name := "sfntFinds", fn := fun _ => fun
  | [d1, d2] => { results := [.lit (.bool false)], args := [d1, d2] }
  | _ => none }
def SfntFindsWrongFalsely : Prop := sfntFindsRow.holds Try.pinned (OpenSpec.ofChange sfntFindsWrong)

/-- 'calamuslaw04.SfntTurned': WHATEVER THE INPUT: true; the input reads as it did. -/
def sfntTurnedSpec : ChangeSpec := { name := "sfntTurned", fn := fun _ => fun
  | [d1, d2, d3] => { results := [.lit (.bool true)], args := [d1, d2, d3] }
  | _ => none }
def sfntTurnedRow : OpenClaim := { program := "ytpplnapfpoloiaa", sum := "bd8b00a9cd8f1ccd9e2574da70608501419f2b803d59a9a09e20ad8d81989017", func := "calamus/calamuslaw04.SfntTurned", spec := "sfntTurned", apart := false }
def SfntTurnedSaid : Prop := sfntTurnedRow.holds Try.pinned (OpenSpec.ofChange sfntTurnedSpec)

/-- ITS FALSE NEIGHBOUR: 'it returns false'. Refute it at one input. -/
def sfntTurnedWrong : ChangeSpec := { name := "sfntTurned", fn := fun _ => fun
  | [d1, d2, d3] => { results := [.lit (.bool false)], args := [d1, d2, d3] }
  | _ => none }
def SfntTurnedWrongFalsely : Prop := sfntTurnedRow.holds Try.pinned (OpenSpec.ofChange sfntTurnedWrong)

/-- 'calamuslaw07.SimpleReads': WHATEVER THE INPUT: true; the input reads as it did. -/
def simpleReadsSpec : ChangeSpec := { name := "simpleReads", fn := fun _ => fun
  | [d] => { results := [.lit (.bool true)], args := [d] }
  | _ => none }
def simpleReadsRow : OpenClaim := { program := "ytpplnapfpoloiaa", sum := "bd8b00a9cd8f1ccd9e2574da70608501419f2b803d59a9a09e20ad8d81989017", func := "calamus/calamuslaw07.SimpleReads", spec := "simpleReads", apart := false }
def SimpleReadsSaid : Prop := simpleReadsRow.holds Try.pinned (OpenSpec.ofChange simpleReadsSpec)

/-- ITS FALSE NEIGHBOUR: 'it returns false'. Refute it at one input. -/
def simpleReadsWrong : ChangeSpec := { name := "simpleReads", fn := fun _ => fun
  | [d] => { results := [.lit (.bool false)], args := [d] }
  | _ => none }
def SimpleReadsWrongFalsely : Prop := simpleReadsRow.holds Try.pinned (OpenSpec.ofChange simpleReadsWrong)

/-- 'calamuslaw07.SimpleWrites': WHATEVER THE INPUT: true; the input reads as it did. -/
def simpleWritesSpec : ChangeSpec := { name := "simpleWrites", fn := fun _ => fun
  | [d] => { results := [.lit (.bool true)], args := [d] }
  | _ => none }
def simpleWritesRow : OpenClaim := { program := "ytpplnapfpoloiaa", sum := "bd8b00a9cd8f1ccd9e2574da70608501419f2b803d59a9a09e20ad8d81989017", func := "calamus/calamuslaw07.SimpleWrites", spec := "simpleWrites", apart := false }
def SimpleWritesSaid : Prop := simpleWritesRow.holds Try.pinned (OpenSpec.ofChange simpleWritesSpec)

/-- ITS FALSE NEIGHBOUR: 'it returns false'. Refute it at one input. -/
def simpleWritesWrong : ChangeSpec := { name := "simpleWrites", fn := fun _ => fun
  | [d] => { results := [.lit (.bool false)], args := [d] }
  | _ => none }
def SimpleWritesWrongFalsely : Prop := simpleWritesRow.holds Try.pinned (OpenSpec.ofChange simpleWritesWrong)

/-- 'calamuslaw07.SimpleBack': WHATEVER THE INPUT: true; the input reads as it did. -/
def simpleBackSpec : ChangeSpec := { name := "simpleBack", fn := fun _ => fun
  | [d1, d2] => { results := [.lit (.bool true)], args := [d1, d2] }
  | _ => none }
def simpleBackRow : OpenClaim := { program := "ytpplnapfpoloiaa", sum := "bd8b00a9cd8f1ccd9e2574da70608501419f2b803d59a9a09e20ad8d81989017", func := "calamus/calamuslaw07.SimpleBack", spec := "simpleBack", apart := false }
def SimpleBackSaid : Prop := simpleBackRow.holds Try.pinned (OpenSpec.ofChange simpleBackSpec)

/-- ITS FALSE NEIGHBOUR: 'it returns false'. Refute it at one input. -/
def simpleBackWrong : ChangeSpec := { name := "simpleBack", fn := fun _ => fun
  | [d1, d2] => { results := [.lit (.bool false)], args := [d1, d2] }
  | _ => none }
def SimpleBackWrongFalsely : Prop := simpleBackRow.holds Try.pinned (OpenSpec.ofChange simpleBackWrong)

/-- 'calamuslaw07.SimpleShort': WHATEVER THE INPUT: true; the input reads as it did. -/
def simpleShortSpec : ChangeSpec := { name := "simpleShort", fn := fun _ => fun
  | [d] => { results := [.lit (.bool true)], args := [d] }
  | _ => none }
def simpleShortRow : OpenClaim := { program := "ytpplnapfpoloiaa", sum := "bd8b00a9cd8f1ccd9e2574da70608501419f2b803d59a9a09e20ad8d81989017", func := "calamus/calamuslaw07.SimpleShort", spec := "simpleShort", apart := false }
def SimpleShortSaid : Prop := simpleShortRow.holds Try.pinned (OpenSpec.ofChange simpleShortSpec)

/-- ITS FALSE NEIGHBOUR: 'it returns false'. Refute it at one input. -/
def simpleShortWrong : ChangeSpec := { name := "simpleShort", fn := fun _ => fun
  | [d] => { results := [.lit (.bool false)], args := [d] }
  | _ => none }
def SimpleShortWrongFalsely : Prop := simpleShortRow.holds Try.pinned (OpenSpec.ofChange simpleShortWrong)

/-- 'calamuslaw07.SimpleCut': WHATEVER THE INPUT: true; the input reads as it did. -/
def simpleCutSpec : ChangeSpec := { name := "simpleCut", fn := fun _ => fun
  | [d1, d2] => { results := [.lit (.bool true)], args := [d1, d2] }
  | _ => none }
def simpleCutRow : OpenClaim := { program := "ytpplnapfpoloiaa", sum := "bd8b00a9cd8f1ccd9e2574da70608501419f2b803d59a9a09e20ad8d81989017", func := "calamus/calamuslaw07.SimpleCut", spec := "simpleCut", apart := false }
def SimpleCutSaid : Prop := simpleCutRow.holds Try.pinned (OpenSpec.ofChange simpleCutSpec)

/-- ITS FALSE NEIGHBOUR: 'it returns false'. Refute it at one input. -/
def simpleCutWrong : ChangeSpec := { name := "simpleCut", fn := fun _ => fun
  | [d1, d2] => { results := [.lit (.bool false)], args := [d1, d2] }
  | _ => none }
def SimpleCutWrongFalsely : Prop := simpleCutRow.holds Try.pinned (OpenSpec.ofChange simpleCutWrong)

/-- 'calamuslaw07.SimpleMoves': WHATEVER THE INPUT: true; the input reads as it did. -/
def simpleMovesSpec : ChangeSpec := { name := "simpleMoves", fn := fun _ => fun
  | [d1, d2, d3] => { results := [.lit (.bool true)], args := [d1, d2, d3] }
  | _ => none }
def simpleMovesRow : OpenClaim := { program := "ytpplnapfpoloiaa", sum := "bd8b00a9cd8f1ccd9e2574da70608501419f2b803d59a9a09e20ad8d81989017", func := "calamus/calamuslaw07.SimpleMoves", spec := "simpleMoves", apart := false }
def SimpleMovesSaid : Prop := simpleMovesRow.holds Try.pinned (OpenSpec.ofChange simpleMovesSpec)

/-- ITS FALSE NEIGHBOUR: 'it returns false'. Refute it at one input. -/
def simpleMovesWrong : ChangeSpec := { name := "simpleMoves", fn := fun _ => fun
  | [d1, d2, d3] => { results := [.lit (.bool false)], args := [d1, d2, d3] }
  | _ => none }
def SimpleMovesWrongFalsely : Prop := simpleMovesRow.holds Try.pinned (OpenSpec.ofChange simpleMovesWrong)

/-- 'calamuslaw08.CompoBack': WHATEVER THE INPUT: true; the input reads as it did. -/
def compoBackSpec : ChangeSpec := { name := "compoBack", fn := fun _ => fun
  | [d1, d2, d3] => { results := [.lit (.bool true)], args := [d1, d2, d3] }
  | _ => none }
def compoBackRow : OpenClaim := { program := "ytpplnapfpoloiaa", sum := "bd8b00a9cd8f1ccd9e2574da70608501419f2b803d59a9a09e20ad8d81989017", func := "calamus/calamuslaw08.CompoBack", spec := "compoBack", unfollowed := true, recurses := true, apart := false }
def CompoBackSaid : Prop := compoBackRow.holds Try.pinned (OpenSpec.ofChange compoBackSpec)

/-- ITS FALSE NEIGHBOUR: 'it returns false'. Refute it at one input. -/
def compoBackWrong : ChangeSpec := { name := "compoBack", fn := fun _ => fun
  | [d1, d2, d3] => { results := [.lit (.bool false)], args := [d1, d2, d3] }
  | _ => none }
def CompoBackWrongFalsely : Prop := compoBackRow.holds Try.pinned (OpenSpec.ofChange compoBackWrong)

/- THE SECOND FORM. 'bulk': how many values and letters a reading holds, each counted each time it is reached (what is shared counts as often as it is met; a slice's spare places count too). A statement '..UptoSaid' is the law's where the arguments, and the package variables that the reading takes, are together of bulk at most 1048576: NARROWER than '..Said'. Prove '..Said' where nothing that the law and all that it calls make is longer than what came in: it says more and counts as full. Else prove '..UptoSaid'. A law counts once. -/
mutual
def uptoBulk {H : Type} : DataW H → Nat
  | .lit (.string bytes) => bytes.length + 1
  | .lit _ => 1
  | .nil => 1
  | .ptr d => uptoBulk d + 1
  | .slice elems spare => uptoBulkAll elems + uptoBulkAll spare + 1
  | .agg parts => uptoBulkAll parts + 1
  | .iface _ d => uptoBulk d + 1
  | .map entries => uptoBulkEntries entries + 1
  | .held _ => 1
def uptoBulkAll {H : Type} : List (DataW H) → Nat
  | [] => 0
  | d :: r => uptoBulk d + uptoBulkAll r
def uptoBulkEntries {H : Type} : List (Lit × DataW H) → Nat
  | [] => 0
  | x :: r => uptoBulkEntry x + uptoBulkEntries r
def uptoBulkEntry {H : Type} : Lit × DataW H → Nat
  | (.string bytes, d) => bytes.length + uptoBulk d + 1
  | (_, d) => uptoBulk d + 1
 end
def uptoSmall : (H : Type) → List (DataW H) → Bool := fun _ ds => decide (uptoBulkAll ds ≤ 1048576)
def OpenSpec.upto (s : _root_.Go.ChangeSpec) : _root_.Go.OpenSpec := { _root_.Go.OpenSpec.ofChange s with cond := some uptoSmall }

/-- 'calamuslaw04.SfntWrites', WHERE WHAT IT READS IS OF BULK AT MOST 1048576: true; the input reads as it did. -/
def sfntWritesUptoRow : OpenClaim := { program := "ytpplnapfpoloiaa", sum := "bd8b00a9cd8f1ccd9e2574da70608501419f2b803d59a9a09e20ad8d81989017", func := "calamus/calamuslaw04.SfntWrites", spec := "sfntWrites", apart := false, narrowed := true }
def SfntWritesUptoSaid : Prop := sfntWritesUptoRow.holds Try.pinned (OpenSpec.upto sfntWritesSpec)

/-- 'calamuslaw04.SfntBack', WHERE WHAT IT READS IS OF BULK AT MOST 1048576: true; the input reads as it did. -/
def sfntBackUptoRow : OpenClaim := { program := "ytpplnapfpoloiaa", sum := "bd8b00a9cd8f1ccd9e2574da70608501419f2b803d59a9a09e20ad8d81989017", func := "calamus/calamuslaw04.SfntBack", spec := "sfntBack", apart := false, narrowed := true }
def SfntBackUptoSaid : Prop := sfntBackUptoRow.holds Try.pinned (OpenSpec.upto sfntBackSpec)

/-- 'calamuslaw04.SfntMagic', WHERE WHAT IT READS IS OF BULK AT MOST 1048576: true; the input reads as it did. -/
def sfntMagicUptoRow : OpenClaim := { program := "ytpplnapfpoloiaa", sum := "bd8b00a9cd8f1ccd9e2574da70608501419f2b803d59a9a09e20ad8d81989017", func := "calamus/calamuslaw04.SfntMagic", spec := "sfntMagic", inPlace := ["slices.overlaps[calamus/api.Table]"], unfollowed := true, recurses := true, apart := false, narrowed := true }
def SfntMagicUptoSaid : Prop := sfntMagicUptoRow.holds Try.pinned (OpenSpec.upto sfntMagicSpec)

/-- 'calamuslaw04.SfntFinds', WHERE WHAT IT READS IS OF BULK AT MOST 1048576: true; the input reads as it did. -/
def sfntFindsUptoRow : OpenClaim := { program := "ytpplnapfpoloiaa", sum := "bd8b00a9cd8f1ccd9e2574da70608501419f2b803d59a9a09e20ad8d81989017", func := "calamus/calamuslaw04.SfntFinds", spec := "sfntFinds", inPlace := ["slices.overlaps[calamus/api.Table]"], unfollowed := true, recurses := true, apart := false, narrowed := true }
def SfntFindsUptoSaid : Prop := sfntFindsUptoRow.holds Try.pinned (OpenSpec.upto sfntFindsSpec)

/-- 'calamuslaw04.SfntTurned', WHERE WHAT IT READS IS OF BULK AT MOST 1048576: true; the input reads as it did. -/
def sfntTurnedUptoRow : OpenClaim := { program := "ytpplnapfpoloiaa", sum := "bd8b00a9cd8f1ccd9e2574da70608501419f2b803d59a9a09e20ad8d81989017", func := "calamus/calamuslaw04.SfntTurned", spec := "sfntTurned", apart := false, narrowed := true }
def SfntTurnedUptoSaid : Prop := sfntTurnedUptoRow.holds Try.pinned (OpenSpec.upto sfntTurnedSpec)

/-- 'calamuslaw07.SimpleReads', WHERE WHAT IT READS IS OF BULK AT MOST 1048576: true; the input reads as it did. -/
def simpleReadsUptoRow : OpenClaim := { program := "ytpplnapfpoloiaa", sum := "bd8b00a9cd8f1ccd9e2574da70608501419f2b803d59a9a09e20ad8d81989017", func := "calamus/calamuslaw07.SimpleReads", spec := "simpleReads", apart := false, narrowed := true }
def SimpleReadsUptoSaid : Prop := simpleReadsUptoRow.holds Try.pinned (OpenSpec.upto simpleReadsSpec)

/-- 'calamuslaw07.SimpleWrites', WHERE WHAT IT READS IS OF BULK AT MOST 1048576: true; the input reads as it did. -/
def simpleWritesUptoRow : OpenClaim := { program := "ytpplnapfpoloiaa", sum := "bd8b00a9cd8f1ccd9e2574da70608501419f2b803d59a9a09e20ad8d81989017", func := "calamus/calamuslaw07.SimpleWrites", spec := "simpleWrites", apart := false, narrowed := true }
def SimpleWritesUptoSaid : Prop := simpleWritesUptoRow.holds Try.pinned (OpenSpec.upto simpleWritesSpec)

/-- 'calamuslaw07.SimpleBack', WHERE WHAT IT READS IS OF BULK AT MOST 1048576: true; the input reads as it did. -/
def simpleBackUptoRow : OpenClaim := { program := "ytpplnapfpoloiaa", sum := "bd8b00a9cd8f1ccd9e2574da70608501419f2b803d59a9a09e20ad8d81989017", func := "calamus/calamuslaw07.SimpleBack", spec := "simpleBack", apart := false, narrowed := true }
def SimpleBackUptoSaid : Prop := simpleBackUptoRow.holds Try.pinned (OpenSpec.upto simpleBackSpec)

/-- 'calamuslaw07.SimpleShort', WHERE WHAT IT READS IS OF BULK AT MOST 1048576: true; the input reads as it did. -/
def simpleShortUptoRow : OpenClaim := { program := "ytpplnapfpoloiaa", sum := "bd8b00a9cd8f1ccd9e2574da70608501419f2b803d59a9a09e20ad8d81989017", func := "calamus/calamuslaw07.SimpleShort", spec := "simpleShort", apart := false, narrowed := true }
def SimpleShortUptoSaid : Prop := simpleShortUptoRow.holds Try.pinned (OpenSpec.upto simpleShortSpec)

/-- 'calamuslaw07.SimpleCut', WHERE WHAT IT READS IS OF BULK AT MOST 1048576: true; the input reads as it did. -/
def simpleCutUptoRow : OpenClaim := { program := "ytpplnapfpoloiaa", sum := "bd8b00a9cd8f1ccd9e2574da70608501419f2b803d59a9a09e20ad8d81989017", func := "calamus/calamuslaw07.SimpleCut", spec := "simpleCut", apart := false, narrowed := true }
def SimpleCutUptoSaid : Prop := simpleCutUptoRow.holds Try.pinned (OpenSpec.upto simpleCutSpec)

/-- 'calamuslaw07.SimpleMoves', WHERE WHAT IT READS IS OF BULK AT MOST 1048576: true; the input reads as it did. -/
def simpleMovesUptoRow : OpenClaim := { program := "ytpplnapfpoloiaa", sum := "bd8b00a9cd8f1ccd9e2574da70608501419f2b803d59a9a09e20ad8d81989017", func := "calamus/calamuslaw07.SimpleMoves", spec := "simpleMoves", apart := false, narrowed := true }
def SimpleMovesUptoSaid : Prop := simpleMovesUptoRow.holds Try.pinned (OpenSpec.upto simpleMovesSpec)

/-- 'calamuslaw08.CompoBack', WHERE WHAT IT READS IS OF BULK AT MOST 1048576: true; the input reads as it did. -/
def compoBackUptoRow : OpenClaim := { program := "ytpplnapfpoloiaa", sum := "bd8b00a9cd8f1ccd9e2574da70608501419f2b803d59a9a09e20ad8d81989017", func := "calamus/calamuslaw08.CompoBack", spec := "compoBack", unfollowed := true, recurses := true, apart := false, narrowed := true }
def CompoBackUptoSaid : Prop := compoBackUptoRow.holds Try.pinned (OpenSpec.upto compoBackSpec)

end Rows
end Go.Proofs.Ytpplnapfpoloiaa
