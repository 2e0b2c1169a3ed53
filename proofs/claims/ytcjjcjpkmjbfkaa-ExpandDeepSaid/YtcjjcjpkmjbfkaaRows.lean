/-
  No cell of these rows narrows 'for every input' (looked for: loops, veiled, ifaces, maps, wideKeys, modest, calm, conditions, laid).
  DERIVED. THE GIVEN ROWS OF THIS SEAT. 4 by the template 'for every input the law returns true; each argument reads behind the call as it read before'; 0 by the template 'total and deterministic' (their statements: YtcjjcjpkmjbfkaaTotals.lean).
  GIVEN WITH THE SEED: the statements are not yours to turn. If you find one false, say at which input.
  Laid BY PROGRAM, IN A SANDBOX (cutbox-rows.mjs): the forced cells as the released guide's own fill.sh prints them over the translation 4c7bdc6b1da8fa93… (all of the seat's roots in one cut). By AI agents, Wed Nov 11 2026. No macro, syntax, notation, axiom, sorry.
-/
import Derived.Test.YtcjjcjpkmjbfkaaChecked
import GoSem.Claim
import GoSem.ClaimJoined
import GoSem.ClaimMapViews
import Derived.JoinedTies
import Derived.KernelRfl
namespace Go.Proofs.Ytcjjcjpkmjbfkaa
/- THE CELL 'sum', in the pinned program and in every row, IS THE sha256 OF THE DUMP (.gsa) THAT YtcjjcjpkmjbfkaaProg.lean LOADS. Nothing in Lean hashes anything: it is a label: what it is worth is what the hold of that sum in a sandbox is worth. -/
noncomputable def Try.pinned : Pinned := { name := "ytcjjcjpkmjbfkaa", sum := "4c7bdc6b1da8fa9372463ba01a9c9bb2c00430a965b70584f0871385c649cbb4", checked := Try.checked }
namespace Rows
def none {H : Type} : Left H := { results := [], args := [] }

/-- 'calamuslaw12.ExpandIs': WHATEVER THE INPUT: true; the input reads as it did. -/
def expandIsSpec : ChangeSpec := { name := "expandIs", fn := fun _ => fun
  | [d1, d2] => { results := [.lit (.bool true)], args := [d1, d2] }
  | _ => none }
def expandIsRow : OpenClaim := { program := "ytcjjcjpkmjbfkaa", sum := "4c7bdc6b1da8fa9372463ba01a9c9bb2c00430a965b70584f0871385c649cbb4", func := "calamus/calamuslaw12.ExpandIs", spec := "expandIs", recurses := true, apart := false }
def ExpandIsSaid : Prop := expandIsRow.holds Try.pinned (OpenSpec.ofChange expandIsSpec)

/-- ITS FALSE NEIGHBOUR: 'it returns false'. Refute it at one input. -/
def expandIsWrong : ChangeSpec := { name := "expandIs", fn := fun _ => fun
  | [d1, d2] => { results := [.lit (.bool false)], args := [d1, d2] }
  | _ => none }
def ExpandIsWrongFalsely : Prop := expandIsRow.holds Try.pinned (OpenSpec.ofChange expandIsWrong)

/-- 'calamuslaw12.ExpandMoves': WHATEVER THE INPUT: true; the input reads as it did. -/
def expandMovesSpec : ChangeSpec := { name := "expandMoves", fn := fun _ => fun
  | [d] => { results := [.lit (.bool true)], args := [d] }
  | _ => none }
def expandMovesRow : OpenClaim := { program := "ytcjjcjpkmjbfkaa", sum := "4c7bdc6b1da8fa9372463ba01a9c9bb2c00430a965b70584f0871385c649cbb4", func := "calamus/calamuslaw12.ExpandMoves", spec := "expandMoves", recurses := true, apart := false }
def ExpandMovesSaid : Prop := expandMovesRow.holds Try.pinned (OpenSpec.ofChange expandMovesSpec)

/-- ITS FALSE NEIGHBOUR: 'it returns false'. Refute it at one input. -/
def expandMovesWrong : ChangeSpec := { name := "expandMoves", fn := fun _ => fun
  | [d] => { results := [.lit (.bool false)], args := [d] }
  | _ => none }
def ExpandMovesWrongFalsely : Prop := expandMovesRow.holds Try.pinned (OpenSpec.ofChange expandMovesWrong)

/-- 'calamuslaw12.ExpandSimple': WHATEVER THE INPUT: true; the input reads as it did. -/
def expandSimpleSpec : ChangeSpec := { name := "expandSimple", fn := fun _ => fun
  | [d] => { results := [.lit (.bool true)], args := [d] }
  | _ => none }
def expandSimpleRow : OpenClaim := { program := "ytcjjcjpkmjbfkaa", sum := "4c7bdc6b1da8fa9372463ba01a9c9bb2c00430a965b70584f0871385c649cbb4", func := "calamus/calamuslaw12.ExpandSimple", spec := "expandSimple", recurses := true, apart := false }
def ExpandSimpleSaid : Prop := expandSimpleRow.holds Try.pinned (OpenSpec.ofChange expandSimpleSpec)

/-- ITS FALSE NEIGHBOUR: 'it returns false'. Refute it at one input. -/
def expandSimpleWrong : ChangeSpec := { name := "expandSimple", fn := fun _ => fun
  | [d] => { results := [.lit (.bool false)], args := [d] }
  | _ => none }
def ExpandSimpleWrongFalsely : Prop := expandSimpleRow.holds Try.pinned (OpenSpec.ofChange expandSimpleWrong)

/-- 'calamuslaw12.ExpandDeep': WHATEVER THE INPUT: true; the input reads as it did. -/
def expandDeepSpec : ChangeSpec := { name := "expandDeep", fn := fun _ => fun
  | [d1, d2] => { results := [.lit (.bool true)], args := [d1, d2] }
  | _ => none }
def expandDeepRow : OpenClaim := { program := "ytcjjcjpkmjbfkaa", sum := "4c7bdc6b1da8fa9372463ba01a9c9bb2c00430a965b70584f0871385c649cbb4", func := "calamus/calamuslaw12.ExpandDeep", spec := "expandDeep", recurses := true, apart := false }
def ExpandDeepSaid : Prop := expandDeepRow.holds Try.pinned (OpenSpec.ofChange expandDeepSpec)

/-- ITS FALSE NEIGHBOUR: 'it returns false'. Refute it at one input. -/
def expandDeepWrong : ChangeSpec := { name := "expandDeep", fn := fun _ => fun
  | [d1, d2] => { results := [.lit (.bool false)], args := [d1, d2] }
  | _ => none }
def ExpandDeepWrongFalsely : Prop := expandDeepRow.holds Try.pinned (OpenSpec.ofChange expandDeepWrong)

/- THE SECOND FORM. 'bulk': how many values and letters a reading holds, each counted each time it is reached (what is shared counts as often as it is met; a slice's spare places count too). A statement '..UptoSaid' is the law's where the arguments, and the package variables that the reading takes, are together of bulk at most 1048576: NARROWER than '..Said'. Prove '..Said' where nothing that the law and all that it calls make is longer than what came in: it says more and counts as full. Else prove '..UptoSaid'. A law counts once. -/
mutual
def uptoBulk {H : Type} : DataW H → Nat
  | .lit (.string bytes) => bytes.length + 1
  | .lit _ => 1
  | .nil => 1
  | .ptr d => uptoBulk d + 1
  | .slice elems spare => uptoBulkAll elems + uptoBulkAll spare + 1
  | .agg parts => uptoBulkAll parts + 1
  | .iface _ d => uptoBulk d + 1
  | .map entries => uptoBulkEntries entries + 1
  | .held _ => 1
def uptoBulkAll {H : Type} : List (DataW H) → Nat
  | [] => 0
  | d :: r => uptoBulk d + uptoBulkAll r
def uptoBulkEntries {H : Type} : List (Lit × DataW H) → Nat
  | [] => 0
  | x :: r => uptoBulkEntry x + uptoBulkEntries r
def uptoBulkEntry {H : Type} : Lit × DataW H → Nat
  | (.string bytes, d) => bytes.length + uptoBulk d + 1
  | (_, d) => uptoBulk d + 1
 end
def uptoSmall : (H : Type) → List (DataW H) → Bool := fun _ ds => decide (uptoBulkAll ds ≤ 1048576)
def OpenSpec.upto (s : _root_.Go.ChangeSpec) : _root_.Go.OpenSpec := { _root_.Go.OpenSpec.ofChange s with cond := some uptoSmall }

/-- 'calamuslaw12.ExpandIs', WHERE WHAT IT READS IS OF BULK AT MOST 1048576: true; the input reads as it did. -/
def expandIsUptoRow : OpenClaim := { program := "ytcjjcjpkmjbfkaa", sum := "4c7bdc6b1da8fa9372463ba01a9c9bb2c00430a965b70584f0871385c649cbb4", func := "calamus/calamuslaw12.ExpandIs", spec := "expandIs", recurses := true, apart := false, narrowed := true }
def ExpandIsUptoSaid : Prop := expandIsUptoRow.holds Try.pinned (OpenSpec.upto expandIsSpec)

/-- 'calamuslaw12.ExpandMoves', WHERE WHAT IT READS IS OF BULK AT MOST 1048576: true; the input reads as it did. -/
def expandMovesUptoRow : OpenClaim := { program := "ytcjjcjpkmjbfkaa", sum := "4c7bdc6b1da8fa9372463ba01a9c9bb2c00430a965b70584f0871385c649cbb4", func := "calamus/calamuslaw12.ExpandMoves", spec := "expandMoves", recurses := true, apart := false, narrowed := true }
def ExpandMovesUptoSaid : Prop := expandMovesUptoRow.holds Try.pinned (OpenSpec.upto expandMovesSpec)

/-- 'calamuslaw12.ExpandSimple', WHERE WHAT IT READS IS OF BULK AT MOST 1048576: true; the input reads as it did. -/
def expandSimpleUptoRow : OpenClaim := { program := "ytcjjcjpkmjbfkaa", sum := "4c7bdc6b1da8fa9372463ba01a9c9bb2c00430a965b70584f0871385c649cbb4", func := "calamus/calamuslaw12.ExpandSimple", spec := "expandSimple", recurses := true, apart := false, narrowed := true }
def ExpandSimpleUptoSaid : Prop := expandSimpleUptoRow.holds Try.pinned (OpenSpec.upto expandSimpleSpec)

/-- 'calamuslaw12.ExpandDeep', WHERE WHAT IT READS IS OF BULK AT MOST 1048576: true; the input reads as it did. -/
def expandDeepUptoRow : OpenClaim := { program := "ytcjjcjpkmjbfkaa", sum := "4c7bdc6b1da8fa9372463ba01a9c9bb2c00430a965b70584f0871385c649cbb4", func := "calamus/calamuslaw12.ExpandDeep", spec := "expandDeep", recurses := true, apart := false, narrowed := true }
def ExpandDeepUptoSaid : Prop := expandDeepUptoRow.holds Try.pinned (OpenSpec.upto expandDeepSpec)

end Rows
end Go.Proofs.Ytcjjcjpkmjbfkaa
