/-
  No cell of these rows narrows 'for every input' (looked for: loops, veiled, ifaces, maps, wideKeys, modest, calm, conditions, laid).
  DERIVED. THE GIVEN ROWS OF THIS SEAT. 11 by the template 'for every input the law returns true; each argument reads behind the call as it read before'; 0 by the template 'total and deterministic' (their statements: YtbjjndficllogaaTotals.lean).
  GIVEN WITH THE SEED: the statements are not yours to turn. If you find one false, say at which input.
  Laid BY PROGRAM, IN A SANDBOX (cutbox-rows.mjs): the forced cells as the released guide's own fill.sh prints them over the translation b79bb9ad8f4a6d4e… (all of the seat's roots in one cut). By AI agents, Wed Nov 11 2026. No macro, syntax, notation, axiom, sorry.
-/
import Derived.Test.YtbjjndficllogaaChecked
import GoSem.Claim
import GoSem.ClaimJoined
import GoSem.ClaimMapViews
import Derived.JoinedTies
import Derived.KernelRfl
namespace Go.Proofs.Ytbjjndficllogaa
/- THE CELL 'sum', in the pinned program and in every row, IS THE sha256 OF THE DUMP (.gsa) THAT YtbjjndficllogaaProg.lean LOADS. Nothing in Lean hashes anything: it is a label: what it is worth is what the hold of that sum in a sandbox is worth. -/
noncomputable def Try.pinned : Pinned := { name := "ytbjjndficllogaa", sum := "b79bb9ad8f4a6d4ea2ee8d77fbb3e92c2467cd1ec5db2ee3de780ee6544e4d37", checked := Try.checked }
namespace Rows
def none {H : Type} : Left H := { results := [], args := [] }

/-- 'calamuslaw07.SimpleReads': WHATEVER THE INPUT: true; the input reads as it did. -/
def simpleReadsSpec : ChangeSpec := { name := "simpleReads", fn := fun _ => fun
  | [d] => { results := [.lit (.bool true)], args := [d] }
  | _ => none }
def simpleReadsRow : OpenClaim := { program := "ytbjjndficllogaa", sum := "b79bb9ad8f4a6d4ea2ee8d77fbb3e92c2467cd1ec5db2ee3de780ee6544e4d37", func := "calamus/calamuslaw07.SimpleReads", spec := "simpleReads", apart := false }
def SimpleReadsSaid : Prop := simpleReadsRow.holds Try.pinned (OpenSpec.ofChange simpleReadsSpec)

/-- ITS FALSE NEIGHBOUR: 'it returns false'. Refute it at one input. -/
def simpleReadsWrong : ChangeSpec := { name := "simpleReads", fn := fun _ => fun
  | [d] => { results := [.lit (.bool false)], args := [d] }
  | _ => none }
def SimpleReadsWrongFalsely : Prop := simpleReadsRow.holds Try.pinned (OpenSpec.ofChange simpleReadsWrong)

/-- 'calamuslaw07.SimpleWrites': WHATEVER THE INPUT: true; the input reads as it did. -/
def simpleWritesSpec : ChangeSpec := { name := "simpleWrites", fn := fun _ => fun
  | [d] => { results := [.lit (.bool true)], args := [d] }
  | _ => none }
def simpleWritesRow : OpenClaim := { program := "ytbjjndficllogaa", sum := "b79bb9ad8f4a6d4ea2ee8d77fbb3e92c2467cd1ec5db2ee3de780ee6544e4d37", func := "calamus/calamuslaw07.SimpleWrites", spec := "simpleWrites", apart := false }
def SimpleWritesSaid : Prop := simpleWritesRow.holds Try.pinned (OpenSpec.ofChange simpleWritesSpec)

/-- ITS FALSE NEIGHBOUR: 'it returns false'. Refute it at one input. -/
def simpleWritesWrong : ChangeSpec := { name := "simpleWrites", fn := fun _ => fun
  | [d] => { results := [.lit (.bool false)], args := [d] }
  | _ => none }
def SimpleWritesWrongFalsely : Prop := simpleWritesRow.holds Try.pinned (OpenSpec.ofChange simpleWritesWrong)

/-- 'calamuslaw07.SimpleBack': WHATEVER THE INPUT: true; the input reads as it did. -/
def simpleBackSpec : ChangeSpec := { name := "simpleBack", fn := fun _ => fun
  | [d1, d2] => { results := [.lit (.bool true)], args := [d1, d2] }
  | _ => none }
def simpleBackRow : OpenClaim := { program := "ytbjjndficllogaa", sum := "b79bb9ad8f4a6d4ea2ee8d77fbb3e92c2467cd1ec5db2ee3de780ee6544e4d37", func := "calamus/calamuslaw07.SimpleBack", spec := "simpleBack", apart := false }
def SimpleBackSaid : Prop := simpleBackRow.holds Try.pinned (OpenSpec.ofChange simpleBackSpec)

/-- ITS FALSE NEIGHBOUR: 'it returns false'. Refute it at one input. -/
def simpleBackWrong : ChangeSpec := { name := "simpleBack", fn := fun _ => fun
  | [d1, d2] => { results := [.lit (.bool false)], args := [d1, d2] }
  | _ => none }
def SimpleBackWrongFalsely : Prop := simpleBackRow.holds Try.pinned (OpenSpec.ofChange simpleBackWrong)

/-- 'calamuslaw07.SimpleShort': WHATEVER THE INPUT: true; the input reads as it did. -/
def simpleShortSpec : ChangeSpec := { name := "simpleShort", fn := fun _ => fun
  | [d] => { results := [.lit (.bool true)], args := [d] }
  | _ => none }
def simpleShortRow : OpenClaim := { program := "ytbjjndficllogaa", sum := "b79bb9ad8f4a6d4ea2ee8d77fbb3e92c2467cd1ec5db2ee3de780ee6544e4d37", func := "calamus/calamuslaw07.SimpleShort", spec := "simpleShort", apart := false }
def SimpleShortSaid : Prop := simpleShortRow.holds Try.pinned (OpenSpec.ofChange simpleShortSpec)

/-- ITS FALSE NEIGHBOUR: 'it returns false'. Refute it at one input. -/
def simpleShortWrong : ChangeSpec := { name := "simpleShort", fn := fun _ => fun
  | [d] => { results := [.lit (.bool false)], args := [d] }
  | _ => none }
def SimpleShortWrongFalsely : Prop := simpleShortRow.holds Try.pinned (OpenSpec.ofChange simpleShortWrong)

/-- 'calamuslaw07.SimpleCut': WHATEVER THE INPUT: true; the input reads as it did. -/
def simpleCutSpec : ChangeSpec := { name := "simpleCut", fn := fun _ => fun
  | [d1, d2] => { results := [.lit (.bool true)], args := [d1, d2] }
  | _ => none }
def simpleCutRow : OpenClaim := { program := "ytbjjndficllogaa", sum := "b79bb9ad8f4a6d4ea2ee8d77fbb3e92c2467cd1ec5db2ee3de780ee6544e4d37", func := "calamus/calamuslaw07.SimpleCut", spec := "simpleCut", apart := false }
def SimpleCutSaid : Prop := simpleCutRow.holds Try.pinned (OpenSpec.ofChange simpleCutSpec)

/-- ITS FALSE NEIGHBOUR: 'it returns false'. Refute it at one input. -/
def simpleCutWrong : ChangeSpec := { name := "simpleCut", fn := fun _ => fun
  | [d1, d2] => { results := [.lit (.bool false)], args := [d1, d2] }
  | _ => none }
def SimpleCutWrongFalsely : Prop := simpleCutRow.holds Try.pinned (OpenSpec.ofChange simpleCutWrong)

/-- 'calamuslaw07.SimpleMoves': WHATEVER THE INPUT: true; the input reads as it did. -/
def simpleMovesSpec : ChangeSpec := { name := "simpleMoves", fn := fun _ => fun
  | [d1, d2, d3] => { results := [.lit (.bool true)], args := [d1, d2, d3] }
  | _ => none }
def simpleMovesRow : OpenClaim := { program := "ytbjjndficllogaa", sum := "b79bb9ad8f4a6d4ea2ee8d77fbb3e92c2467cd1ec5db2ee3de780ee6544e4d37", func := "calamus/calamuslaw07.SimpleMoves", spec := "simpleMoves", apart := false }
def SimpleMovesSaid : Prop := simpleMovesRow.holds Try.pinned (OpenSpec.ofChange simpleMovesSpec)

/-- ITS FALSE NEIGHBOUR: 'it returns false'. Refute it at one input. -/
def simpleMovesWrong : ChangeSpec := { name := "simpleMoves", fn := fun _ => fun
  | [d1, d2, d3] => { results := [.lit (.bool false)], args := [d1, d2, d3] }
  | _ => none }
def SimpleMovesWrongFalsely : Prop := simpleMovesRow.holds Try.pinned (OpenSpec.ofChange simpleMovesWrong)

/-- 'calamuslaw08.CompoReads': WHATEVER THE INPUT: true; the input reads as it did. -/
def compoReadsSpec : ChangeSpec := { name := "compoReads", fn := fun _ => fun
  | [d] => { results := [.lit (.bool true)], args := [d] }
  | _ => none }
def compoReadsRow : OpenClaim := { program := "ytbjjndficllogaa", sum := "b79bb9ad8f4a6d4ea2ee8d77fbb3e92c2467cd1ec5db2ee3de780ee6544e4d37", func := "calamus/calamuslaw08.CompoReads", spec := "compoReads", unfollowed := true, recurses := true, apart := false }
def CompoReadsSaid : Prop := compoReadsRow.holds Try.pinned (OpenSpec.ofChange compoReadsSpec)

/-- ITS FALSE NEIGHBOUR: 'it returns false'. Refute it at one input. -/
def compoReadsWrong : ChangeSpec := { name := "compoReads", fn := fun _ => fun
  | [d] => { results := [.lit (.bool false)], args := [d] }
  | _ => none }
def CompoReadsWrongFalsely : Prop := compoReadsRow.holds Try.pinned (OpenSpec.ofChange compoReadsWrong)

/-- 'calamuslaw08.CompoWrites': WHATEVER THE INPUT: true; the input reads as it did. -/
def compoWritesSpec : ChangeSpec := { name := "compoWrites", fn := fun _ => fun
  | [d1, d2, d3] => { results := [.lit (.bool true)], args := [d1, d2, d3] }
  | _ => none }
def compoWritesRow : OpenClaim := { program := "ytbjjndficllogaa", sum := "b79bb9ad8f4a6d4ea2ee8d77fbb3e92c2467cd1ec5db2ee3de780ee6544e4d37", func := "calamus/calamuslaw08.CompoWrites", spec := "compoWrites", unfollowed := true, recurses := true, apart := false }
def CompoWritesSaid : Prop := compoWritesRow.holds Try.pinned (OpenSpec.ofChange compoWritesSpec)

/-- ITS FALSE NEIGHBOUR: 'it returns false'. Refute it at one input. -/
def compoWritesWrong : ChangeSpec := { name := "compoWrites", fn := fun _ => fun
  | [d1, d2, d3] => { results := [.lit (.bool false)], args := [d1, d2, d3] }
  | _ => none }
def CompoWritesWrongFalsely : Prop := compoWritesRow.holds Try.pinned (OpenSpec.ofChange compoWritesWrong)

/-- 'calamuslaw08.CompoBack': WHATEVER THE INPUT: true; the input reads as it did. -/
def compoBackSpec : ChangeSpec := { name := "compoBack", fn := fun _ => fun
  | [d1, d2, d3] => { results := [.lit (.bool true)], args := [d1, d2, d3] }
  | _ => none }
def compoBackRow : OpenClaim := { program := "ytbjjndficllogaa", sum := "b79bb9ad8f4a6d4ea2ee8d77fbb3e92c2467cd1ec5db2ee3de780ee6544e4d37", func := "calamus/calamuslaw08.CompoBack", spec := "compoBack", unfollowed := true, recurses := true, apart := false }
def CompoBackSaid : Prop := compoBackRow.holds Try.pinned (OpenSpec.ofChange compoBackSpec)

/-- ITS FALSE NEIGHBOUR: 'it returns false'. Refute it at one input. -/
def compoBackWrong : ChangeSpec := { name := "compoBack", fn := fun _ => fun
  | [d1, d2, d3] => { results := [.lit (.bool false)], args := [d1, d2, d3] }
  | _ => none }
def CompoBackWrongFalsely : Prop := compoBackRow.holds Try.pinned (OpenSpec.ofChange compoBackWrong)

/-- 'calamuslaw08.CompoCut': WHATEVER THE INPUT: true; the input reads as it did. -/
def compoCutSpec : ChangeSpec := { name := "compoCut", fn := fun _ => fun
  | [d1, d2, d3] => { results := [.lit (.bool true)], args := [d1, d2, d3] }
  | _ => none }
def compoCutRow : OpenClaim := { program := "ytbjjndficllogaa", sum := "b79bb9ad8f4a6d4ea2ee8d77fbb3e92c2467cd1ec5db2ee3de780ee6544e4d37", func := "calamus/calamuslaw08.CompoCut", spec := "compoCut", unfollowed := true, recurses := true, apart := false }
def CompoCutSaid : Prop := compoCutRow.holds Try.pinned (OpenSpec.ofChange compoCutSpec)

/-- ITS FALSE NEIGHBOUR: 'it returns false'. Refute it at one input. -/
def compoCutWrong : ChangeSpec := { name := "compoCut", fn := fun _ => fun
  | [d1, d2, d3] => { results := [.lit (.bool false)], args := [d1, d2, d3] }
  | _ => none }
def CompoCutWrongFalsely : Prop := compoCutRow.holds Try.pinned (OpenSpec.ofChange compoCutWrong)

/-- 'calamuslaw08.CompoAgain': WHATEVER THE INPUT: true; the input reads as it did. -/
def compoAgainSpec : ChangeSpec := { name := "compoAgain", fn := fun _ => fun
  | [d] => { results := [.lit (.bool true)], args := [d] }
  | _ => none }
def compoAgainRow : OpenClaim := { program := "ytbjjndficllogaa", sum := "b79bb9ad8f4a6d4ea2ee8d77fbb3e92c2467cd1ec5db2ee3de780ee6544e4d37", func := "calamus/calamuslaw08.CompoAgain", spec := "compoAgain", unfollowed := true, recurses := true, apart := false }
def CompoAgainSaid : Prop := compoAgainRow.holds Try.pinned (OpenSpec.ofChange compoAgainSpec)

/-- ITS FALSE NEIGHBOUR: 'it returns false'. Refute it at one input. -/
def compoAgainWrong : ChangeSpec := { name := "compoAgain", fn := fun _ => fun
  | [d] => { results := [.lit (.bool false)], args := [d] }
  | _ => none }
def CompoAgainWrongFalsely : Prop := compoAgainRow.holds Try.pinned (OpenSpec.ofChange compoAgainWrong)

/- THE SECOND FORM. 'bulk': how many values and letters a reading holds, each counted each time it is reached (what is shared counts as often as it is met; a slice's spare places count too). A statement '..UptoSaid' is the law's where the arguments, and the package variables that the reading takes, are together of bulk at most 1048576: NARROWER than '..Said'. Prove '..Said' where nothing that the law and all that it calls make is longer than what came in: it says more and counts as full. Else prove '..UptoSaid'. A law counts once. -/
mutual
def uptoBulk {H : Type} : DataW H → Nat
  | .lit (.string bytes) => bytes.length + 1
  | .lit _ => 1
  | .nil => 1
  | .ptr d => uptoBulk d + 1
  | .slice elems spare => uptoBulkAll elems + uptoBulkAll spare + 1
  | .agg parts => uptoBulkAll parts + 1
  | .iface _ d => uptoBulk d + 1
  | .map entries => uptoBulkEntries entries + 1
  | .held _ => 1
def uptoBulkAll {H : Type} : List (DataW H) → Nat
  | [] => 0
  | d :: r => uptoBulk d + uptoBulkAll r
def uptoBulkEntries {H : Type} : List (Lit × DataW H) → Nat
  | [] => 0
  | x :: r => uptoBulkEntry x + uptoBulkEntries r
def uptoBulkEntry {H : Type} : Lit × DataW H → Nat
  | (.string bytes, d) => bytes.length + uptoBulk d + 1
  | (_, d) => uptoBulk d + 1
 end
def uptoSmall : (H : Type) → List (DataW H) → Bool := fun _ ds => decide (uptoBulkAll ds ≤ 1048576)
def OpenSpec.upto (s : _root_.Go.ChangeSpec) : _root_.Go.OpenSpec := { _root_.Go.OpenSpec.ofChange s with cond := some uptoSmall }

/-- 'calamuslaw07.SimpleReads', WHERE WHAT IT READS IS OF BULK AT MOST 1048576: true; the input reads as it did. -/
def simpleReadsUptoRow : OpenClaim := { program := "ytbjjndficllogaa", sum := "b79bb9ad8f4a6d4ea2ee8d77fbb3e92c2467cd1ec5db2ee3de780ee6544e4d37", func := "calamus/calamuslaw07.SimpleReads", spec := "simpleReads", apart := false, narrowed := true }
def SimpleReadsUptoSaid : Prop := simpleReadsUptoRow.holds Try.pinned (OpenSpec.upto simpleReadsSpec)

/-- 'calamuslaw07.SimpleWrites', WHERE WHAT IT READS IS OF BULK AT MOST 1048576: true; the input reads as it did. -/
def simpleWritesUptoRow : OpenClaim := { program := "ytbjjndficllogaa", sum := "b79bb9ad8f4a6d4ea2ee8d77fbb3e92c2467cd1ec5db2ee3de780ee6544e4d37", func := "calamus/calamuslaw07.SimpleWrites", spec := "simpleWrites", apart := false, narrowed := true }
def SimpleWritesUptoSaid : Prop := simpleWritesUptoRow.holds Try.pinned (OpenSpec.upto simpleWritesSpec)

/-- 'calamuslaw07.SimpleBack', WHERE WHAT IT READS IS OF BULK AT MOST 1048576: true; the input reads as it did. -/
def simpleBackUptoRow : OpenClaim := { program := "ytbjjndficllogaa", sum := "b79bb9ad8f4a6d4ea2ee8d77fbb3e92c2467cd1ec5db2ee3de780ee6544e4d37", func := "calamus/calamuslaw07.SimpleBack", spec := "simpleBack", apart := false, narrowed := true }
def SimpleBackUptoSaid : Prop := simpleBackUptoRow.holds Try.pinned (OpenSpec.upto simpleBackSpec)

/-- 'calamuslaw07.SimpleShort', WHERE WHAT IT READS IS OF BULK AT MOST 1048576: true; the input reads as it did. -/
def simpleShortUptoRow : OpenClaim := { program := "ytbjjndficllogaa", sum := "b79bb9ad8f4a6d4ea2ee8d77fbb3e92c2467cd1ec5db2ee3de780ee6544e4d37", func := "calamus/calamuslaw07.SimpleShort", spec := "simpleShort", apart := false, narrowed := true }
def SimpleShortUptoSaid : Prop := simpleShortUptoRow.holds Try.pinned (OpenSpec.upto simpleShortSpec)

/-- 'calamuslaw07.SimpleCut', WHERE WHAT IT READS IS OF BULK AT MOST 1048576: true; the input reads as it did. -/
def simpleCutUptoRow : OpenClaim := { program := "ytbjjndficllogaa", sum := "b79bb9ad8f4a6d4ea2ee8d77fbb3e92c2467cd1ec5db2ee3de780ee6544e4d37", func := "calamus/calamuslaw07.SimpleCut", spec := "simpleCut", apart := false, narrowed := true }
def SimpleCutUptoSaid : Prop := simpleCutUptoRow.holds Try.pinned (OpenSpec.upto simpleCutSpec)

/-- 'calamuslaw07.SimpleMoves', WHERE WHAT IT READS IS OF BULK AT MOST 1048576: true; the input reads as it did. -/
def simpleMovesUptoRow : OpenClaim := { program := "ytbjjndficllogaa", sum := "b79bb9ad8f4a6d4ea2ee8d77fbb3e92c2467cd1ec5db2ee3de780ee6544e4d37", func := "calamus/calamuslaw07.SimpleMoves", spec := "simpleMoves", apart := false, narrowed := true }
def SimpleMovesUptoSaid : Prop := simpleMovesUptoRow.holds Try.pinned (OpenSpec.upto simpleMovesSpec)

/-- 'calamuslaw08.CompoReads', WHERE WHAT IT READS IS OF BULK AT MOST 1048576: true; the input reads as it did. -/
def compoReadsUptoRow : OpenClaim := { program := "ytbjjndficllogaa", sum := "b79bb9ad8f4a6d4ea2ee8d77fbb3e92c2467cd1ec5db2ee3de780ee6544e4d37", func := "calamus/calamuslaw08.CompoReads", spec := "compoReads", unfollowed := true, recurses := true, apart := false, narrowed := true }
def CompoReadsUptoSaid : Prop := compoReadsUptoRow.holds Try.pinned (OpenSpec.upto compoReadsSpec)

/-- 'calamuslaw08.CompoWrites', WHERE WHAT IT READS IS OF BULK AT MOST 1048576: true; the input reads as it did. -/
def compoWritesUptoRow : OpenClaim := { program := "ytbjjndficllogaa", sum := "b79bb9ad8f4a6d4ea2ee8d77fbb3e92c2467cd1ec5db2ee3de780ee6544e4d37", func := "calamus/calamuslaw08.CompoWrites", spec := "compoWrites", unfollowed := true, recurses := true, apart := false, narrowed := true }
def CompoWritesUptoSaid : Prop := compoWritesUptoRow.holds Try.pinned (OpenSpec.upto compoWritesSpec)

/-- 'calamuslaw08.CompoBack', WHERE WHAT IT READS IS OF BULK AT MOST 1048576: true; the input reads as it did. -/
def compoBackUptoRow : OpenClaim := { program := "ytbjjndficllogaa", sum := "b79bb9ad8f4a6d4ea2ee8d77fbb3e92c2467cd1ec5db2ee3de780ee6544e4d37", func := "calamus/calamuslaw08.CompoBack", spec := "compoBack", unfollowed := true, recurses := true, apart := false, narrowed := true }
def CompoBackUptoSaid : Prop := compoBackUptoRow.holds Try.pinned (OpenSpec.upto compoBackSpec)

/-- 'calamuslaw08.CompoCut', WHERE WHAT IT READS IS OF BULK AT MOST 1048576: true; the input reads as it did. -/
def compoCutUptoRow : OpenClaim := { program := "ytbjjndficllogaa", sum := "b79bb9ad8f4a6d4ea2ee8d77fbb3e92c2467cd1ec5db2ee3de780ee6544e4d37", func := "calamus/calamuslaw08.CompoCut", spec := "compoCut", unfollowed := true, recurses := true, apart := false, narrowed := true }
def CompoCutUptoSaid : Prop := compoCutUptoRow.holds Try.pinned (OpenSpec.upto compoCutSpec)

/-- 'calamuslaw08.CompoAgain', WHERE WHAT IT READS IS OF BULK AT MOST 1048576: true; the input reads as it did. -/
def compoAgainUptoRow : OpenClaim := { program := "ytbjjndficllogaa", sum := "b79bb9ad8f4a6d4ea2ee8d77fbb3e92c2467cd1ec5db2ee3de780ee6544e4d37", func := "calamus/calamuslaw08.CompoAgain", spec := "compoAgain", unfollowed := true, recurses := true, apart := false, narrowed := true }
def CompoAgainUptoSaid : Prop := compoAgainUptoRow.holds Try.pinned (OpenSpec.upto compoAgainSpec)

end Rows
end Go.Proofs.Ytbjjndficllogaa
