/-
  No cell of these rows narrows 'for every input' (looked for: loops, veiled, ifaces, maps, wideKeys, modest, calm, conditions, laid).
  DERIVED. THE GIVEN ROWS OF THIS SEAT. 6 by the template 'for every input the law returns true; each argument reads behind the call as it read before'; 0 by the template 'total and deterministic' (their statements: YtcfghkphkmoikaaGreatTotals.lean).
  GIVEN WITH THE SEED: the statements are not yours to turn. If you find one false, say at which input.
  Laid BY PROGRAM, IN A SANDBOX (cutbox-rows.mjs): the forced cells as the released guide's own fill.sh prints them over the translation c2471d942a783f6d… (all of the seat's roots in one cut). By AI agents, Wed Nov 11 2026. No macro, syntax, notation, axiom, sorry.
-/
import Derived.Test.YtcfghkphkmoikaaGreatChecked
import GoSem.Claim
import GoSem.ClaimJoined
import GoSem.ClaimMapViews
import Derived.JoinedTies
import Derived.KernelRfl
namespace Go.Proofs.YtcfghkphkmoikaaGreat
/- THE CELL 'sum', in the pinned program and in every row, IS THE sha256 OF THE DUMP (.gsa) THAT YtcfghkphkmoikaaGreatProg.lean LOADS. Nothing in Lean hashes anything: it is a label: what it is worth is what the hold of that sum in a sandbox is worth. -/
noncomputable def Tryz.pinned : Pinned := { name := "ytcfghkphkmoikaagreat", sum := "c2471d942a783f6db63008ea3c81e3e17649368d525c31c3e1b7d0fc8629f261", checked := Tryz.checked }
namespace Rows
def none {H : Type} : Left H := { results := [], args := [] }

/-- 'calamuslaw17.SnapChains': WHATEVER THE INPUT: true; the input reads as it did. -/
def snapChainsSpec : ChangeSpec := { name := "snapChains", fn := fun _ => fun
  | [d1, d2] => { results := [.lit (.bool true)], args := [d1, d2] }
  | _ => none }
def snapChainsRow : OpenClaim := { program := "ytcfghkphkmoikaagreat", sum := "c2471d942a783f6db63008ea3c81e3e17649368d525c31c3e1b7d0fc8629f261", func := "calamus/calamuslaw17.SnapChains", spec := "snapChains", inPlace := ["math/bits.Add64"], unfollowed := true, recurses := true, named := ["math/bits.divideError", "math/bits.overflowError"], plainKeys := false, apart := false }
def SnapChainsSaid : Prop := snapChainsRow.holds Tryz.pinned (OpenSpec.ofChange snapChainsSpec)

/-- ITS FALSE NEIGHBOUR: 'it returns false'. Refute it at one input. -/
def snapChainsWrong : ChangeSpec := { name := "snapChains", fn := fun _ => fun
  | [d1, d2] => { results := [.lit (.bool false)], args := [d1, d2] }
  | _ => none }
def SnapChainsWrongFalsely : Prop := snapChainsRow.holds Tryz.pinned (OpenSpec.ofChange snapChainsWrong)

/-- 'calamuslaw17.SnapEdges': WHATEVER THE INPUT: true; the input reads as it did. -/
def snapEdgesSpec : ChangeSpec := { name := "snapEdges", fn := fun _ => fun
  | [d] => { results := [.lit (.bool true)], args := [d] }
  | _ => none }
def snapEdgesRow : OpenClaim := { program := "ytcfghkphkmoikaagreat", sum := "c2471d942a783f6db63008ea3c81e3e17649368d525c31c3e1b7d0fc8629f261", func := "calamus/calamuslaw17.SnapEdges", spec := "snapEdges", inPlace := ["math/bits.Add64"], unfollowed := true, recurses := true, named := ["math/bits.divideError", "math/bits.overflowError"], plainKeys := false, apart := false }
def SnapEdgesSaid : Prop := snapEdgesRow.holds Tryz.pinned (OpenSpec.ofChange snapEdgesSpec)

/-- ITS FALSE NEIGHBOUR: 'it returns false'. Refute it at one input. -/
def snapEdgesWrong : ChangeSpec := { name := "snapEdges", fn := fun _ => fun
  | [d] => { results := [.lit (.bool false)], args := [d] }
  | _ => none }
def SnapEdgesWrongFalsely : Prop := snapEdgesRow.holds Tryz.pinned (OpenSpec.ofChange snapEdgesWrong)

/-- 'calamuslaw17.SnapPlane': WHATEVER THE INPUT: true; the input reads as it did. -/
def snapPlaneSpec : ChangeSpec := { name := "snapPlane", fn := fun _ => fun
  | [d] => { results := [.lit (.bool true)], args := [d] }
  | _ => none }
def snapPlaneRow : OpenClaim := { program := "ytcfghkphkmoikaagreat", sum := "c2471d942a783f6db63008ea3c81e3e17649368d525c31c3e1b7d0fc8629f261", func := "calamus/calamuslaw17.SnapPlane", spec := "snapPlane", inPlace := ["math/bits.Add64"], unfollowed := true, recurses := true, named := ["math/bits.divideError", "math/bits.overflowError"], plainKeys := false, apart := false }
def SnapPlaneSaid : Prop := snapPlaneRow.holds Tryz.pinned (OpenSpec.ofChange snapPlaneSpec)

/-- ITS FALSE NEIGHBOUR: 'it returns false'. Refute it at one input. -/
def snapPlaneWrong : ChangeSpec := { name := "snapPlane", fn := fun _ => fun
  | [d] => { results := [.lit (.bool false)], args := [d] }
  | _ => none }
def SnapPlaneWrongFalsely : Prop := snapPlaneRow.holds Tryz.pinned (OpenSpec.ofChange snapPlaneWrong)

/-- 'calamuslaw17.SnapFlows': WHATEVER THE INPUT: true; the input reads as it did. -/
def snapFlowsSpec : ChangeSpec := { name := "snapFlows", fn := fun _ => fun
  | [d] => { results := [.lit (.bool true)], args := [d] }
  | _ => none }
def snapFlowsRow : OpenClaim := { program := "ytcfghkphkmoikaagreat", sum := "c2471d942a783f6db63008ea3c81e3e17649368d525c31c3e1b7d0fc8629f261", func := "calamus/calamuslaw17.SnapFlows", spec := "snapFlows", inPlace := ["math/bits.Add64"], unfollowed := true, recurses := true, named := ["math/bits.divideError", "math/bits.overflowError"], plainKeys := false, apart := false }
def SnapFlowsSaid : Prop := snapFlowsRow.holds Tryz.pinned (OpenSpec.ofChange snapFlowsSpec)

/-- ITS FALSE NEIGHBOUR: 'it returns false'. Refute it at one input. -/
def snapFlowsWrong : ChangeSpec := { name := "snapFlows", fn := fun _ => fun
  | [d] => { results := [.lit (.bool false)], args := [d] }
  | _ => none }
def SnapFlowsWrongFalsely : Prop := snapFlowsRow.holds Tryz.pinned (OpenSpec.ofChange snapFlowsWrong)

/-- 'calamuslaw17.SnapTurns': WHATEVER THE INPUT: true; the input reads as it did. -/
def snapTurnsSpec : ChangeSpec := { name := "snapTurns", fn := fun _ => fun
  | [d1, d2] => { results := [.lit (.bool true)], args := [d1, d2] }
  | _ => none }
def snapTurnsRow : OpenClaim := { program := "ytcfghkphkmoikaagreat", sum := "c2471d942a783f6db63008ea3c81e3e17649368d525c31c3e1b7d0fc8629f261", func := "calamus/calamuslaw17.SnapTurns", spec := "snapTurns", inPlace := ["math/bits.Add64"], unfollowed := true, recurses := true, named := ["math/bits.divideError", "math/bits.overflowError"], plainKeys := false, apart := false }
def SnapTurnsSaid : Prop := snapTurnsRow.holds Tryz.pinned (OpenSpec.ofChange snapTurnsSpec)

/-- ITS FALSE NEIGHBOUR: 'it returns false'. Refute it at one input. -/
def snapTurnsWrong : ChangeSpec := { name := "snapTurns", fn := fun _ => fun
  | [d1, d2] => { results := [.lit (.bool false)], args := [d1, d2] }
  | _ => none }
def SnapTurnsWrongFalsely : Prop := snapTurnsRow.holds Tryz.pinned (OpenSpec.ofChange snapTurnsWrong)

/-- 'calamuslaw17.SnapNear': WHATEVER THE INPUT: true; the input reads as it did. -/
def snapNearSpec : ChangeSpec := { name := "snapNear", fn := fun _ => fun
  | [d] => { results := [.lit (.bool true)], args := [d] }
  | _ => none }
def snapNearRow : OpenClaim := { program := "ytcfghkphkmoikaagreat", sum := "c2471d942a783f6db63008ea3c81e3e17649368d525c31c3e1b7d0fc8629f261", func := "calamus/calamuslaw17.SnapNear", spec := "snapNear", inPlace := ["math/bits.Add64"], unfollowed := true, recurses := true, named := ["math/bits.divideError", "math/bits.overflowError"], plainKeys := false, apart := false }
def SnapNearSaid : Prop := snapNearRow.holds Tryz.pinned (OpenSpec.ofChange snapNearSpec)

/-- ITS FALSE NEIGHBOUR: 'it returns false'. Refute it at one input. -/
def snapNearWrong : ChangeSpec := { name := "snapNear", fn := fun _ => fun
  | [d] => { results := [.lit (.bool false)], args := [d] }
  | _ => none }
def SnapNearWrongFalsely : Prop := snapNearRow.holds Tryz.pinned (OpenSpec.ofChange snapNearWrong)

/- THE SECOND FORM. 'bulk': how many values and letters a reading holds, each counted each time it is reached (what is shared counts as often as it is met; a slice's spare places count too). A statement '..UptoSaid' is the law's where the arguments, and the package variables that the reading takes, are together of bulk at most 1048576: NARROWER than '..Said'. Prove '..Said' where nothing that the law and all that it calls make is longer than what came in: it says more and counts as full. Else prove '..UptoSaid'. A law counts once. -/
mutual
def uptoBulk {H : Type} : DataW H → Nat
  | .lit (.string bytes) => bytes.length + 1
  | .lit _ => 1
  | .nil => 1
  | .ptr d => uptoBulk d + 1
  | .slice elems spare => uptoBulkAll elems + uptoBulkAll spare + 1
  | .agg parts => uptoBulkAll parts + 1
  | .iface _ d => uptoBulk d + 1
  | .map entries => uptoBulkEntries entries + 1
  | .held _ => 1
def uptoBulkAll {H : Type} : List (DataW H) → Nat
  | [] => 0
  | d :: r => uptoBulk d + uptoBulkAll r
def uptoBulkEntries {H : Type} : List (Lit × DataW H) → Nat
  | [] => 0
  | x :: r => uptoBulkEntry x + uptoBulkEntries r
def uptoBulkEntry {H : Type} : Lit × DataW H → Nat
  | (.string bytes, d) => bytes.length + uptoBulk d + 1
  | (_, d) => uptoBulk d + 1
 end
def uptoSmall : (H : Type) → List (DataW H) → Bool := fun _ ds => decide (uptoBulkAll ds ≤ 1048576)
def OpenSpec.upto (s : _root_.Go.ChangeSpec) : _root_.Go.OpenSpec := { _root_.Go.OpenSpec.ofChange s with cond := some uptoSmall }

/-- 'calamuslaw17.SnapChains', WHERE WHAT IT READS IS OF BULK AT MOST 1048576: true; the input reads as it did. -/
def snapChainsUptoRow : OpenClaim := { program := "ytcfghkphkmoikaagreat", sum := "c2471d942a783f6db63008ea3c81e3e17649368d525c31c3e1b7d0fc8629f261", func := "calamus/calamuslaw17.SnapChains", spec := "snapChains", inPlace := ["math/bits.Add64"], unfollowed := true, recurses := true, named := ["math/bits.divideError", "math/bits.overflowError"], plainKeys := false, apart := false, narrowed := true }
def SnapChainsUptoSaid : Prop := snapChainsUptoRow.holds Tryz.pinned (OpenSpec.upto snapChainsSpec)

/-- 'calamuslaw17.SnapEdges', WHERE WHAT IT READS IS OF BULK AT MOST 1048576: true; the input reads as it did. -/
def snapEdgesUptoRow : OpenClaim := { program := "ytcfghkphkmoikaagreat", sum := "c2471d942a783f6db63008ea3c81e3e17649368d525c31c3e1b7d0fc8629f261", func := "calamus/calamuslaw17.SnapEdges", spec := "snapEdges", inPlace := ["math/bits.Add64"], unfollowed := true, recurses := true, named := ["math/bits.divideError", "math/bits.overflowError"], plainKeys := false, apart := false, narrowed := true }
def SnapEdgesUptoSaid : Prop := snapEdgesUptoRow.holds Tryz.pinned (OpenSpec.upto snapEdgesSpec)

/-- 'calamuslaw17.SnapPlane', WHERE WHAT IT READS IS OF BULK AT MOST 1048576: true; the input reads as it did. -/
def snapPlaneUptoRow : OpenClaim := { program := "ytcfghkphkmoikaagreat", sum := "c2471d942a783f6db63008ea3c81e3e17649368d525c31c3e1b7d0fc8629f261", func := "calamus/calamuslaw17.SnapPlane", spec := "snapPlane", inPlace := ["math/bits.Add64"], unfollowed := true, recurses := true, named := ["math/bits.divideError", "math/bits.overflowError"], plainKeys := false, apart := false, narrowed := true }
def SnapPlaneUptoSaid : Prop := snapPlaneUptoRow.holds Tryz.pinned (OpenSpec.upto snapPlaneSpec)

/-- 'calamuslaw17.SnapFlows', WHERE WHAT IT READS IS OF BULK AT MOST 1048576: true; the input reads as it did. -/
def snapFlowsUptoRow : OpenClaim := { program := "ytcfghkphkmoikaagreat", sum := "c2471d942a783f6db63008ea3c81e3e17649368d525c31c3e1b7d0fc8629f261", func := "calamus/calamuslaw17.SnapFlows", spec := "snapFlows", inPlace := ["math/bits.Add64"], unfollowed := true, recurses := true, named := ["math/bits.divideError", "math/bits.overflowError"], plainKeys := false, apart := false, narrowed := true }
def SnapFlowsUptoSaid : Prop := snapFlowsUptoRow.holds Tryz.pinned (OpenSpec.upto snapFlowsSpec)

/-- 'calamuslaw17.SnapTurns', WHERE WHAT IT READS IS OF BULK AT MOST 1048576: true; the input reads as it did. -/
def snapTurnsUptoRow : OpenClaim := { program := "ytcfghkphkmoikaagreat", sum := "c2471d942a783f6db63008ea3c81e3e17649368d525c31c3e1b7d0fc8629f261", func := "calamus/calamuslaw17.SnapTurns", spec := "snapTurns", inPlace := ["math/bits.Add64"], unfollowed := true, recurses := true, named := ["math/bits.divideError", "math/bits.overflowError"], plainKeys := false, apart := false, narrowed := true }
def SnapTurnsUptoSaid : Prop := snapTurnsUptoRow.holds Tryz.pinned (OpenSpec.upto snapTurnsSpec)

/-- 'calamuslaw17.SnapNear', WHERE WHAT IT READS IS OF BULK AT MOST 1048576: true; the input reads as it did. -/
def snapNearUptoRow : OpenClaim := { program := "ytcfghkphkmoikaagreat", sum := "c2471d942a783f6db63008ea3c81e3e17649368d525c31c3e1b7d0fc8629f261", func := "calamus/calamuslaw17.SnapNear", spec := "snapNear", inPlace := ["math/bits.Add64"], unfollowed := true, recurses := true, named := ["math/bits.divideError", "math/bits.overflowError"], plainKeys := false, apart := false, narrowed := true }
def SnapNearUptoSaid : Prop := snapNearUptoRow.holds Tryz.pinned (OpenSpec.upto snapNearSpec)

end Rows
end Go.Proofs.YtcfghkphkmoikaaGreat
