/-
  No cell of these rows narrows 'for every input' (looked for: loops, veiled, ifaces, maps, wideKeys, modest, calm, conditions, laid).
  DERIVED. THE GIVEN ROWS OF THIS SEAT. 11 by the template 'for every input the law returns true; each argument reads behind the call as it read before'; 0 by the template 'total and deterministic' (their statements: YtdbenpncnkfliaaTotals.lean).
  GIVEN WITH THE SEED: the statements are not yours to turn. If you find one false, say at which input.
  Laid BY PROGRAM, IN A SANDBOX (cutbox-rows.mjs): the forced cells as the released guide's own fill.sh prints them over the translation a0fadb3cfe351dfd… (all of the seat's roots in one cut). By AI agents, Wed Nov 11 2026. No macro, syntax, notation, axiom, sorry.
-/
import Derived.Test.YtdbenpncnkfliaaChecked
import GoSem.Claim
import GoSem.ClaimJoined
import GoSem.ClaimMapViews
import Derived.JoinedTies
import Derived.KernelRfl
namespace Go.Proofs.Ytdbenpncnkfliaa
/- THE CELL 'sum', in the pinned program and in every row, IS THE sha256 OF THE DUMP (.gsa) THAT YtdbenpncnkfliaaProg.lean LOADS. Nothing in Lean hashes anything: it is a label: what it is worth is what the hold of that sum in a sandbox is worth. -/
noncomputable def Try.pinned : Pinned := { name := "ytdbenpncnkfliaa", sum := "a0fadb3cfe351dfddee34557b6ad4cbfc3a73c24555de6fc48be7e4850969bd9", checked := Try.checked }
namespace Rows
def none {H : Type} : Left H := { results := [], args := [] }

/-- 'calamuslaw11.OutlineSegs': WHATEVER THE INPUT: true; the input reads as it did. -/
def outlineSegsSpec : ChangeSpec := { name := "outlineSegs", fn := fun _ => fun
  | [d] => { results := [.lit (.bool true)], args := [d] }
  | _ => none }
def outlineSegsRow : OpenClaim := { program := "ytdbenpncnkfliaa", sum := "a0fadb3cfe351dfddee34557b6ad4cbfc3a73c24555de6fc48be7e4850969bd9", func := "calamus/calamuslaw11.OutlineSegs", spec := "outlineSegs", unfollowed := true, recurses := true, plainKeys := false, apart := false }
def OutlineSegsSaid : Prop := outlineSegsRow.holds Try.pinned (OpenSpec.ofChange outlineSegsSpec)

/-- ITS FALSE NEIGHBOUR: 'it returns false'. Refute it at one input. -/
def outlineSegsWrong : ChangeSpec := { name := "outlineSegs", fn := fun _ => fun
  | [d] => { results := [.lit (.bool false)], args := [d] }
  | _ => none }
def OutlineSegsWrongFalsely : Prop := outlineSegsRow.holds Try.pinned (OpenSpec.ofChange outlineSegsWrong)

/-- 'calamuslaw11.OutlineMids': WHATEVER THE INPUT: true; the input reads as it did. -/
def outlineMidsSpec : ChangeSpec := { name := "outlineMids", fn := fun _ => fun
  | [d1, d2] => { results := [.lit (.bool true)], args := [d1, d2] }
  | _ => none }
def outlineMidsRow : OpenClaim := { program := "ytdbenpncnkfliaa", sum := "a0fadb3cfe351dfddee34557b6ad4cbfc3a73c24555de6fc48be7e4850969bd9", func := "calamus/calamuslaw11.OutlineMids", spec := "outlineMids", unfollowed := true, recurses := true, plainKeys := false, apart := false }
def OutlineMidsSaid : Prop := outlineMidsRow.holds Try.pinned (OpenSpec.ofChange outlineMidsSpec)

/-- ITS FALSE NEIGHBOUR: 'it returns false'. Refute it at one input. -/
def outlineMidsWrong : ChangeSpec := { name := "outlineMids", fn := fun _ => fun
  | [d1, d2] => { results := [.lit (.bool false)], args := [d1, d2] }
  | _ => none }
def OutlineMidsWrongFalsely : Prop := outlineMidsRow.holds Try.pinned (OpenSpec.ofChange outlineMidsWrong)

/-- 'calamuslaw11.OutlineCloses': WHATEVER THE INPUT: true; the input reads as it did. -/
def outlineClosesSpec : ChangeSpec := { name := "outlineCloses", fn := fun _ => fun
  | [d] => { results := [.lit (.bool true)], args := [d] }
  | _ => none }
def outlineClosesRow : OpenClaim := { program := "ytdbenpncnkfliaa", sum := "a0fadb3cfe351dfddee34557b6ad4cbfc3a73c24555de6fc48be7e4850969bd9", func := "calamus/calamuslaw11.OutlineCloses", spec := "outlineCloses", unfollowed := true, recurses := true, plainKeys := false, apart := false }
def OutlineClosesSaid : Prop := outlineClosesRow.holds Try.pinned (OpenSpec.ofChange outlineClosesSpec)

/-- ITS FALSE NEIGHBOUR: 'it returns false'. Refute it at one input. -/
def outlineClosesWrong : ChangeSpec := { name := "outlineCloses", fn := fun _ => fun
  | [d] => { results := [.lit (.bool false)], args := [d] }
  | _ => none }
def OutlineClosesWrongFalsely : Prop := outlineClosesRow.holds Try.pinned (OpenSpec.ofChange outlineClosesWrong)

/-- 'calamuslaw11.OutlineFlips': WHATEVER THE INPUT: true; the input reads as it did. -/
def outlineFlipsSpec : ChangeSpec := { name := "outlineFlips", fn := fun _ => fun
  | [d] => { results := [.lit (.bool true)], args := [d] }
  | _ => none }
def outlineFlipsRow : OpenClaim := { program := "ytdbenpncnkfliaa", sum := "a0fadb3cfe351dfddee34557b6ad4cbfc3a73c24555de6fc48be7e4850969bd9", func := "calamus/calamuslaw11.OutlineFlips", spec := "outlineFlips", unfollowed := true, recurses := true, plainKeys := false, apart := false }
def OutlineFlipsSaid : Prop := outlineFlipsRow.holds Try.pinned (OpenSpec.ofChange outlineFlipsSpec)

/-- ITS FALSE NEIGHBOUR: 'it returns false'. Refute it at one input. -/
def outlineFlipsWrong : ChangeSpec := { name := "outlineFlips", fn := fun _ => fun
  | [d] => { results := [.lit (.bool false)], args := [d] }
  | _ => none }
def OutlineFlipsWrongFalsely : Prop := outlineFlipsRow.holds Try.pinned (OpenSpec.ofChange outlineFlipsWrong)

/-- 'calamuslaw11.OutlineBegins': WHATEVER THE INPUT: true; the input reads as it did. -/
def outlineBeginsSpec : ChangeSpec := { name := "outlineBegins", fn := fun _ => fun
  | [d1, d2] => { results := [.lit (.bool true)], args := [d1, d2] }
  | _ => none }
def outlineBeginsRow : OpenClaim := { program := "ytdbenpncnkfliaa", sum := "a0fadb3cfe351dfddee34557b6ad4cbfc3a73c24555de6fc48be7e4850969bd9", func := "calamus/calamuslaw11.OutlineBegins", spec := "outlineBegins", unfollowed := true, recurses := true, plainKeys := false, apart := false }
def OutlineBeginsSaid : Prop := outlineBeginsRow.holds Try.pinned (OpenSpec.ofChange outlineBeginsSpec)

/-- ITS FALSE NEIGHBOUR: 'it returns false'. Refute it at one input. -/
def outlineBeginsWrong : ChangeSpec := { name := "outlineBegins", fn := fun _ => fun
  | [d1, d2] => { results := [.lit (.bool false)], args := [d1, d2] }
  | _ => none }
def OutlineBeginsWrongFalsely : Prop := outlineBeginsRow.holds Try.pinned (OpenSpec.ofChange outlineBeginsWrong)

/-- 'calamuslaw11.OutlineLifts': WHATEVER THE INPUT: true; the input reads as it did. -/
def outlineLiftsSpec : ChangeSpec := { name := "outlineLifts", fn := fun _ => fun
  | [d] => { results := [.lit (.bool true)], args := [d] }
  | _ => none }
def outlineLiftsRow : OpenClaim := { program := "ytdbenpncnkfliaa", sum := "a0fadb3cfe351dfddee34557b6ad4cbfc3a73c24555de6fc48be7e4850969bd9", func := "calamus/calamuslaw11.OutlineLifts", spec := "outlineLifts", unfollowed := true, recurses := true, plainKeys := false, apart := false }
def OutlineLiftsSaid : Prop := outlineLiftsRow.holds Try.pinned (OpenSpec.ofChange outlineLiftsSpec)

/-- ITS FALSE NEIGHBOUR: 'it returns false'. Refute it at one input. -/
def outlineLiftsWrong : ChangeSpec := { name := "outlineLifts", fn := fun _ => fun
  | [d] => { results := [.lit (.bool false)], args := [d] }
  | _ => none }
def OutlineLiftsWrongFalsely : Prop := outlineLiftsRow.holds Try.pinned (OpenSpec.ofChange outlineLiftsWrong)

/-- 'calamuslaw14.FlatPiece': WHATEVER THE INPUT: true; the input reads as it did. -/
def flatPieceSpec : ChangeSpec := { name := "flatPiece", fn := fun _ => fun
  | [d] => { results := [.lit (.bool true)], args := [d] }
  | _ => none }
def flatPieceRow : OpenClaim := { program := "ytdbenpncnkfliaa", sum := "a0fadb3cfe351dfddee34557b6ad4cbfc3a73c24555de6fc48be7e4850969bd9", func := "calamus/calamuslaw14.FlatPiece", spec := "flatPiece", unfollowed := true, recurses := true, plainKeys := false, apart := false }
def FlatPieceSaid : Prop := flatPieceRow.holds Try.pinned (OpenSpec.ofChange flatPieceSpec)

/-- ITS FALSE NEIGHBOUR: 'it returns false'. Refute it at one input. -/
def flatPieceWrong : ChangeSpec := { name := "flatPiece", fn := fun _ => fun
  | [d] => { results := [.lit (.bool false)], args := [d] }
  | _ => none }
def FlatPieceWrongFalsely : Prop := flatPieceRow.holds Try.pinned (OpenSpec.ofChange flatPieceWrong)

/-- 'calamuslaw14.FlatLines': WHATEVER THE INPUT: true; the input reads as it did. -/
def flatLinesSpec : ChangeSpec := { name := "flatLines", fn := fun _ => fun
  | [d] => { results := [.lit (.bool true)], args := [d] }
  | _ => none }
def flatLinesRow : OpenClaim := { program := "ytdbenpncnkfliaa", sum := "a0fadb3cfe351dfddee34557b6ad4cbfc3a73c24555de6fc48be7e4850969bd9", func := "calamus/calamuslaw14.FlatLines", spec := "flatLines", unfollowed := true, recurses := true, plainKeys := false, apart := false }
def FlatLinesSaid : Prop := flatLinesRow.holds Try.pinned (OpenSpec.ofChange flatLinesSpec)

/-- ITS FALSE NEIGHBOUR: 'it returns false'. Refute it at one input. -/
def flatLinesWrong : ChangeSpec := { name := "flatLines", fn := fun _ => fun
  | [d] => { results := [.lit (.bool false)], args := [d] }
  | _ => none }
def FlatLinesWrongFalsely : Prop := flatLinesRow.holds Try.pinned (OpenSpec.ofChange flatLinesWrong)

/-- 'calamuslaw14.FlatClosed': WHATEVER THE INPUT: true; the input reads as it did. -/
def flatClosedSpec : ChangeSpec := { name := "flatClosed", fn := fun _ => fun
  | [d] => { results := [.lit (.bool true)], args := [d] }
  | _ => none }
def flatClosedRow : OpenClaim := { program := "ytdbenpncnkfliaa", sum := "a0fadb3cfe351dfddee34557b6ad4cbfc3a73c24555de6fc48be7e4850969bd9", func := "calamus/calamuslaw14.FlatClosed", spec := "flatClosed", unfollowed := true, recurses := true, plainKeys := false, apart := false }
def FlatClosedSaid : Prop := flatClosedRow.holds Try.pinned (OpenSpec.ofChange flatClosedSpec)

/-- ITS FALSE NEIGHBOUR: 'it returns false'. Refute it at one input. -/
def flatClosedWrong : ChangeSpec := { name := "flatClosed", fn := fun _ => fun
  | [d] => { results := [.lit (.bool false)], args := [d] }
  | _ => none }
def FlatClosedWrongFalsely : Prop := flatClosedRow.holds Try.pinned (OpenSpec.ofChange flatClosedWrong)

/-- 'calamuslaw14.FlatCloses': WHATEVER THE INPUT: true; the input reads as it did. -/
def flatClosesSpec : ChangeSpec := { name := "flatCloses", fn := fun _ => fun
  | [d] => { results := [.lit (.bool true)], args := [d] }
  | _ => none }
def flatClosesRow : OpenClaim := { program := "ytdbenpncnkfliaa", sum := "a0fadb3cfe351dfddee34557b6ad4cbfc3a73c24555de6fc48be7e4850969bd9", func := "calamus/calamuslaw14.FlatCloses", spec := "flatCloses", unfollowed := true, recurses := true, plainKeys := false, apart := false }
def FlatClosesSaid : Prop := flatClosesRow.holds Try.pinned (OpenSpec.ofChange flatClosesSpec)

/-- ITS FALSE NEIGHBOUR: 'it returns false'. Refute it at one input. -/
def flatClosesWrong : ChangeSpec := { name := "flatCloses", fn := fun _ => fun
  | [d] => { results := [.lit (.bool false)], args := [d] }
  | _ => none }
def FlatClosesWrongFalsely : Prop := flatClosesRow.holds Try.pinned (OpenSpec.ofChange flatClosesWrong)

/-- 'calamuslaw14.FlatNear': WHATEVER THE INPUT: true; the input reads as it did. -/
def flatNearSpec : ChangeSpec := { name := "flatNear", fn := fun _ => fun
  | [d1, d2] => { results := [.lit (.bool true)], args := [d1, d2] }
  | _ => none }
def flatNearRow : OpenClaim := { program := "ytdbenpncnkfliaa", sum := "a0fadb3cfe351dfddee34557b6ad4cbfc3a73c24555de6fc48be7e4850969bd9", func := "calamus/calamuslaw14.FlatNear", spec := "flatNear", unfollowed := true, recurses := true, plainKeys := false, apart := false }
def FlatNearSaid : Prop := flatNearRow.holds Try.pinned (OpenSpec.ofChange flatNearSpec)

/-- ITS FALSE NEIGHBOUR: 'it returns false'. Refute it at one input. -/
def flatNearWrong : ChangeSpec := { name := "flatNear", fn := fun _ => fun
  | [d1, d2] => { results := [.lit (.bool false)], args := [d1, d2] }
  | _ => none }
def FlatNearWrongFalsely : Prop := flatNearRow.holds Try.pinned (OpenSpec.ofChange flatNearWrong)

/- THE SECOND FORM. 'bulk': how many values and letters a reading holds, each counted each time it is reached (what is shared counts as often as it is met; a slice's spare places count too). A statement '..UptoSaid' is the law's where the arguments, and the package variables that the reading takes, are together of bulk at most 1048576: NARROWER than '..Said'. Prove '..Said' where nothing that the law and all that it calls make is longer than what came in: it says more and counts as full. Else prove '..UptoSaid'. A law counts once. -/
mutual
def uptoBulk {H : Type} : DataW H → Nat
  | .lit (.string bytes) => bytes.length + 1
  | .lit _ => 1
  | .nil => 1
  | .ptr d => uptoBulk d + 1
  | .slice elems spare => uptoBulkAll elems + uptoBulkAll spare + 1
  | .agg parts => uptoBulkAll parts + 1
  | .iface _ d => uptoBulk d + 1
  | .map entries => uptoBulkEntries entries + 1
  | .held _ => 1
def uptoBulkAll {H : Type} : List (DataW H) → Nat
  | [] => 0
  | d :: r => uptoBulk d + uptoBulkAll r
def uptoBulkEntries {H : Type} : List (Lit × DataW H) → Nat
  | [] => 0
  | x :: r => uptoBulkEntry x + uptoBulkEntries r
def uptoBulkEntry {H : Type} : Lit × DataW H → Nat
  | (.string bytes, d) => bytes.length + uptoBulk d + 1
  | (_, d) => uptoBulk d + 1
 end
def uptoSmall : (H : Type) → List (DataW H) → Bool := fun _ ds => decide (uptoBulkAll ds ≤ 1048576)
def OpenSpec.upto (s : _root_.Go.ChangeSpec) : _root_.Go.OpenSpec := { _root_.Go.OpenSpec.ofChange s with cond := some uptoSmall }

/-- 'calamuslaw11.OutlineSegs', WHERE WHAT IT READS IS OF BULK AT MOST 1048576: true; the input reads as it did. -/
def outlineSegsUptoRow : OpenClaim := { program := "ytdbenpncnkfliaa", sum := "a0fadb3cfe351dfddee34557b6ad4cbfc3a73c24555de6fc48be7e4850969bd9", func := "calamus/calamuslaw11.OutlineSegs", spec := "outlineSegs", unfollowed := true, recurses := true, plainKeys := false, apart := false, narrowed := true }
def OutlineSegsUptoSaid : Prop := outlineSegsUptoRow.holds Try.pinned (OpenSpec.upto outlineSegsSpec)

/-- 'calamuslaw11.OutlineMids', WHERE WHAT IT READS IS OF BULK AT MOST 1048576: true; the input reads as it did. -/
def outlineMidsUptoRow : OpenClaim := { program := "ytdbenpncnkfliaa", sum := "a0fadb3cfe351dfddee34557b6ad4cbfc3a73c24555de6fc48be7e4850969bd9", func := "calamus/calamuslaw11.OutlineMids", spec := "outlineMids", unfollowed := true, recurses := true, plainKeys := false, apart := false, narrowed := true }
def OutlineMidsUptoSaid : Prop := outlineMidsUptoRow.holds Try.pinned (OpenSpec.upto outlineMidsSpec)

/-- 'calamuslaw11.OutlineCloses', WHERE WHAT IT READS IS OF BULK AT MOST 1048576: true; the input reads as it did. -/
def outlineClosesUptoRow : OpenClaim := { program := "ytdbenpncnkfliaa", sum := "a0fadb3cfe351dfddee34557b6ad4cbfc3a73c24555de6fc48be7e4850969bd9", func := "calamus/calamuslaw11.OutlineCloses", spec := "outlineCloses", unfollowed := true, recurses := true, plainKeys := false, apart := false, narrowed := true }
def OutlineClosesUptoSaid : Prop := outlineClosesUptoRow.holds Try.pinned (OpenSpec.upto outlineClosesSpec)

/-- 'calamuslaw11.OutlineFlips', WHERE WHAT IT READS IS OF BULK AT MOST 1048576: true; the input reads as it did. -/
def outlineFlipsUptoRow : OpenClaim := { program := "ytdbenpncnkfliaa", sum := "a0fadb3cfe351dfddee34557b6ad4cbfc3a73c24555de6fc48be7e4850969bd9", func := "calamus/calamuslaw11.OutlineFlips", spec := "outlineFlips", unfollowed := true, recurses := true, plainKeys := false, apart := false, narrowed := true }
def OutlineFlipsUptoSaid : Prop := outlineFlipsUptoRow.holds Try.pinned (OpenSpec.upto outlineFlipsSpec)

/-- 'calamuslaw11.OutlineBegins', WHERE WHAT IT READS IS OF BULK AT MOST 1048576: true; the input reads as it did. -/
def outlineBeginsUptoRow : OpenClaim := { program := "ytdbenpncnkfliaa", sum := "a0fadb3cfe351dfddee34557b6ad4cbfc3a73c24555de6fc48be7e4850969bd9", func := "calamus/calamuslaw11.OutlineBegins", spec := "outlineBegins", unfollowed := true, recurses := true, plainKeys := false, apart := false, narrowed := true }
def OutlineBeginsUptoSaid : Prop := outlineBeginsUptoRow.holds Try.pinned (OpenSpec.upto outlineBeginsSpec)

/-- 'calamuslaw11.OutlineLifts', WHERE WHAT IT READS IS OF BULK AT MOST 1048576: true; the input reads as it did. -/
def outlineLiftsUptoRow : OpenClaim := { program := "ytdbenpncnkfliaa", sum := "a0fadb3cfe351dfddee34557b6ad4cbfc3a73c24555de6fc48be7e4850969bd9", func := "calamus/calamuslaw11.OutlineLifts", spec := "outlineLifts", unfollowed := true, recurses := true, plainKeys := false, apart := false, narrowed := true }
def OutlineLiftsUptoSaid : Prop := outlineLiftsUptoRow.holds Try.pinned (OpenSpec.upto outlineLiftsSpec)

/-- 'calamuslaw14.FlatPiece', WHERE WHAT IT READS IS OF BULK AT MOST 1048576: true; the input reads as it did. -/
def flatPieceUptoRow : OpenClaim := { program := "ytdbenpncnkfliaa", sum := "a0fadb3cfe351dfddee34557b6ad4cbfc3a73c24555de6fc48be7e4850969bd9", func := "calamus/calamuslaw14.FlatPiece", spec := "flatPiece", unfollowed := true, recurses := true, plainKeys := false, apart := false, narrowed := true }
def FlatPieceUptoSaid : Prop := flatPieceUptoRow.holds Try.pinned (OpenSpec.upto flatPieceSpec)

/-- 'calamuslaw14.FlatLines', WHERE WHAT IT READS IS OF BULK AT MOST 1048576: true; the input reads as it did. -/
def flatLinesUptoRow : OpenClaim := { program := "ytdbenpncnkfliaa", sum := "a0fadb3cfe351dfddee34557b6ad4cbfc3a73c24555de6fc48be7e4850969bd9", func := "calamus/calamuslaw14.FlatLines", spec := "flatLines", unfollowed := true, recurses := true, plainKeys := false, apart := false, narrowed := true }
def FlatLinesUptoSaid : Prop := flatLinesUptoRow.holds Try.pinned (OpenSpec.upto flatLinesSpec)

/-- 'calamuslaw14.FlatClosed', WHERE WHAT IT READS IS OF BULK AT MOST 1048576: true; the input reads as it did. -/
def flatClosedUptoRow : OpenClaim := { program := "ytdbenpncnkfliaa", sum := "a0fadb3cfe351dfddee34557b6ad4cbfc3a73c24555de6fc48be7e4850969bd9", func := "calamus/calamuslaw14.FlatClosed", spec := "flatClosed", unfollowed := true, recurses := true, plainKeys := false, apart := false, narrowed := true }
def FlatClosedUptoSaid : Prop := flatClosedUptoRow.holds Try.pinned (OpenSpec.upto flatClosedSpec)

/-- 'calamuslaw14.FlatCloses', WHERE WHAT IT READS IS OF BULK AT MOST 1048576: true; the input reads as it did. -/
def flatClosesUptoRow : OpenClaim := { program := "ytdbenpncnkfliaa", sum := "a0fadb3cfe351dfddee34557b6ad4cbfc3a73c24555de6fc48be7e4850969bd9", func := "calamus/calamuslaw14.FlatCloses", spec := "flatCloses", unfollowed := true, recurses := true, plainKeys := false, apart := false, narrowed := true }
def FlatClosesUptoSaid : Prop := flatClosesUptoRow.holds Try.pinned (OpenSpec.upto flatClosesSpec)

/-- 'calamuslaw14.FlatNear', WHERE WHAT IT READS IS OF BULK AT MOST 1048576: true; the input reads as it did. -/
def flatNearUptoRow : OpenClaim := { program := "ytdbenpncnkfliaa", sum := "a0fadb3cfe351dfddee34557b6ad4cbfc3a73c24555de6fc48be7e4850969bd9", func := "calamus/calamuslaw14.FlatNear", spec := "flatNear", unfollowed := true, recurses := true, plainKeys := false, apart := false, narrowed := true }
def FlatNearUptoSaid : Prop := flatNearUptoRow.holds Try.pinned (OpenSpec.upto flatNearSpec)

end Rows
end Go.Proofs.Ytdbenpncnkfliaa
