/-
  No cell of these rows narrows 'for every input' (looked for: loops, veiled, ifaces, maps, wideKeys, modest, calm, conditions, laid).
  DERIVED. THE GIVEN ROWS OF THIS SEAT. 10 by the template 'for every input the law returns true; each argument reads behind the call as it read before'; 0 by the template 'total and deterministic' (their statements: YtckochcocflleaaTotals.lean).
  GIVEN WITH THE SEED: the statements are not yours to turn. If you find one false, say at which input.
  Laid BY PROGRAM, IN A SANDBOX (cutbox-rows.mjs): the forced cells as the released guide's own fill.sh prints them over the translation 9d0a6a69eb49a844… (all of the seat's roots in one cut). By AI agents, Wed Nov 11 2026. No macro, syntax, notation, axiom, sorry.
-/
import Derived.Test.YtckochcocflleaaChecked
import GoSem.Claim
import GoSem.ClaimJoined
import GoSem.ClaimMapViews
import Derived.JoinedTies
import Derived.KernelRfl
namespace Go.Proofs.Ytckochcocflleaa
/- THE CELL 'sum', in the pinned program and in every row, IS THE sha256 OF THE DUMP (.gsa) THAT YtckochcocflleaaProg.lean LOADS. Nothing in Lean hashes anything: it is a label: what it is worth is what the hold of that sum in a sandbox is worth. -/
noncomputable def Try.pinned : Pinned := { name := "ytckochcocflleaa", sum := "9d0a6a69eb49a8443e7dcb21cd7d98cc8190a2c57195e51471ebfbde690f6432", checked := Try.checked }
namespace Rows
def none {H : Type} : Left H := { results := [], args := [] }

/-- 'calamuslaw01.WideRing': WHATEVER THE INPUT: true; the input reads as it did. -/
def wideRingSpec : ChangeSpec := { name := "wideRing", fn := fun _ => fun
  | [d1, d2, d3] => { results := [.lit (.bool true)], args := [d1, d2, d3] }
  | _ => none }
def wideRingRow : OpenClaim := { program := "ytckochcocflleaa", sum := "9d0a6a69eb49a8443e7dcb21cd7d98cc8190a2c57195e51471ebfbde690f6432", func := "calamus/calamuslaw01.WideRing", spec := "wideRing", inPlace := ["math/bits.Add64", "math/bits.Sub64"], named := ["math/bits.divideError", "math/bits.overflowError"], plainKeys := false, apart := false }
def WideRingSaid : Prop := wideRingRow.holds Try.pinned (OpenSpec.ofChange wideRingSpec)

/-- ITS FALSE NEIGHBOUR: 'it returns false'. Refute it at one input. -/
def wideRingWrong : ChangeSpec := { name := "wideRing", fn := fun _ => fun
  | [d1, d2, d3] => { results := [.lit (.bool false)], args := [d1, d2, d3] }
  | _ => none }
def WideRingWrongFalsely : Prop := wideRingRow.holds Try.pinned (OpenSpec.ofChange wideRingWrong)

/-- 'calamuslaw16.PixelOf': WHATEVER THE INPUT: true; the input reads as it did. -/
def pixelOfSpec : ChangeSpec := { name := "pixelOf", fn := fun _ => fun
  | [d] => { results := [.lit (.bool true)], args := [d] }
  | _ => none }
def pixelOfRow : OpenClaim := { program := "ytckochcocflleaa", sum := "9d0a6a69eb49a8443e7dcb21cd7d98cc8190a2c57195e51471ebfbde690f6432", func := "calamus/calamuslaw16.PixelOf", spec := "pixelOf", inPlace := ["math/bits.Add64"], unfollowed := true, recurses := true, named := ["math/bits.divideError", "math/bits.overflowError"], plainKeys := false, apart := false }
def PixelOfSaid : Prop := pixelOfRow.holds Try.pinned (OpenSpec.ofChange pixelOfSpec)

/-- ITS FALSE NEIGHBOUR: 'it returns false'. Refute it at one input. -/
def pixelOfWrong : ChangeSpec := { name := "pixelOf", fn := fun _ => fun
  | [d] => { results := [.lit (.bool false)], args := [d] }
  | _ => none }
def PixelOfWrongFalsely : Prop := pixelOfRow.holds Try.pinned (OpenSpec.ofChange pixelOfWrong)

/-- 'calamuslaw16.PixelHits': WHATEVER THE INPUT: true; the input reads as it did. -/
def pixelHitsSpec : ChangeSpec := { name := "pixelHits", fn := fun _ => fun
  | [d1, d2] => { results := [.lit (.bool true)], args := [d1, d2] }
  | _ => none }
def pixelHitsRow : OpenClaim := { program := "ytckochcocflleaa", sum := "9d0a6a69eb49a8443e7dcb21cd7d98cc8190a2c57195e51471ebfbde690f6432", func := "calamus/calamuslaw16.PixelHits", spec := "pixelHits", inPlace := ["math/bits.Add64"], unfollowed := true, recurses := true, named := ["math/bits.divideError", "math/bits.overflowError"], plainKeys := false, apart := false }
def PixelHitsSaid : Prop := pixelHitsRow.holds Try.pinned (OpenSpec.ofChange pixelHitsSpec)

/-- ITS FALSE NEIGHBOUR: 'it returns false'. Refute it at one input. -/
def pixelHitsWrong : ChangeSpec := { name := "pixelHits", fn := fun _ => fun
  | [d1, d2] => { results := [.lit (.bool false)], args := [d1, d2] }
  | _ => none }
def PixelHitsWrongFalsely : Prop := pixelHitsRow.holds Try.pinned (OpenSpec.ofChange pixelHitsWrong)

/-- 'calamuslaw16.PixelBack': WHATEVER THE INPUT: true; the input reads as it did. -/
def pixelBackSpec : ChangeSpec := { name := "pixelBack", fn := fun _ => fun
  | [d] => { results := [.lit (.bool true)], args := [d] }
  | _ => none }
def pixelBackRow : OpenClaim := { program := "ytckochcocflleaa", sum := "9d0a6a69eb49a8443e7dcb21cd7d98cc8190a2c57195e51471ebfbde690f6432", func := "calamus/calamuslaw16.PixelBack", spec := "pixelBack", inPlace := ["math/bits.Add64"], unfollowed := true, recurses := true, named := ["math/bits.divideError", "math/bits.overflowError"], plainKeys := false, apart := false }
def PixelBackSaid : Prop := pixelBackRow.holds Try.pinned (OpenSpec.ofChange pixelBackSpec)

/-- ITS FALSE NEIGHBOUR: 'it returns false'. Refute it at one input. -/
def pixelBackWrong : ChangeSpec := { name := "pixelBack", fn := fun _ => fun
  | [d] => { results := [.lit (.bool false)], args := [d] }
  | _ => none }
def PixelBackWrongFalsely : Prop := pixelBackRow.holds Try.pinned (OpenSpec.ofChange pixelBackWrong)

/-- 'calamuslaw16.PixelMet': WHATEVER THE INPUT: true; the input reads as it did. -/
def pixelMetSpec : ChangeSpec := { name := "pixelMet", fn := fun _ => fun
  | [d] => { results := [.lit (.bool true)], args := [d] }
  | _ => none }
def pixelMetRow : OpenClaim := { program := "ytckochcocflleaa", sum := "9d0a6a69eb49a8443e7dcb21cd7d98cc8190a2c57195e51471ebfbde690f6432", func := "calamus/calamuslaw16.PixelMet", spec := "pixelMet", inPlace := ["math/bits.Add64"], unfollowed := true, recurses := true, named := ["math/bits.divideError", "math/bits.overflowError"], plainKeys := false, apart := false }
def PixelMetSaid : Prop := pixelMetRow.holds Try.pinned (OpenSpec.ofChange pixelMetSpec)

/-- ITS FALSE NEIGHBOUR: 'it returns false'. Refute it at one input. -/
def pixelMetWrong : ChangeSpec := { name := "pixelMet", fn := fun _ => fun
  | [d] => { results := [.lit (.bool false)], args := [d] }
  | _ => none }
def PixelMetWrongFalsely : Prop := pixelMetRow.holds Try.pinned (OpenSpec.ofChange pixelMetWrong)

/-- 'calamuslaw22.ArcAlong': WHATEVER THE INPUT: true; the input reads as it did. -/
def arcAlongSpec : ChangeSpec := { name := "arcAlong", fn := fun _ => fun
  | [d1, d2] => { results := [.lit (.bool true)], args := [d1, d2] }
  | _ => none }
def arcAlongRow : OpenClaim := { program := "ytckochcocflleaa", sum := "9d0a6a69eb49a8443e7dcb21cd7d98cc8190a2c57195e51471ebfbde690f6432", func := "calamus/calamuslaw22.ArcAlong", spec := "arcAlong", unfollowed := true, recurses := true, named := ["math/bits.divideError", "math/bits.overflowError"], plainKeys := false, apart := false }
def ArcAlongSaid : Prop := arcAlongRow.holds Try.pinned (OpenSpec.ofChange arcAlongSpec)

/-- ITS FALSE NEIGHBOUR: 'it returns false'. Refute it at one input. -/
def arcAlongWrong : ChangeSpec := { name := "arcAlong", fn := fun _ => fun
  | [d1, d2] => { results := [.lit (.bool false)], args := [d1, d2] }
  | _ => none }
def ArcAlongWrongFalsely : Prop := arcAlongRow.holds Try.pinned (OpenSpec.ofChange arcAlongWrong)

/-- 'calamuslaw22.ArcDiscs': WHATEVER THE INPUT: true; the input reads as it did. -/
def arcDiscsSpec : ChangeSpec := { name := "arcDiscs", fn := fun _ => fun
  | [d1, d2] => { results := [.lit (.bool true)], args := [d1, d2] }
  | _ => none }
def arcDiscsRow : OpenClaim := { program := "ytckochcocflleaa", sum := "9d0a6a69eb49a8443e7dcb21cd7d98cc8190a2c57195e51471ebfbde690f6432", func := "calamus/calamuslaw22.ArcDiscs", spec := "arcDiscs", unfollowed := true, recurses := true, named := ["math/bits.divideError", "math/bits.overflowError"], plainKeys := false, apart := false }
def ArcDiscsSaid : Prop := arcDiscsRow.holds Try.pinned (OpenSpec.ofChange arcDiscsSpec)

/-- ITS FALSE NEIGHBOUR: 'it returns false'. Refute it at one input. -/
def arcDiscsWrong : ChangeSpec := { name := "arcDiscs", fn := fun _ => fun
  | [d1, d2] => { results := [.lit (.bool false)], args := [d1, d2] }
  | _ => none }
def ArcDiscsWrongFalsely : Prop := arcDiscsRow.holds Try.pinned (OpenSpec.ofChange arcDiscsWrong)

/-- 'calamuslaw22.ArcLengths': WHATEVER THE INPUT: true; the input reads as it did. -/
def arcLengthsSpec : ChangeSpec := { name := "arcLengths", fn := fun _ => fun
  | [d1, d2, d3] => { results := [.lit (.bool true)], args := [d1, d2, d3] }
  | _ => none }
def arcLengthsRow : OpenClaim := { program := "ytckochcocflleaa", sum := "9d0a6a69eb49a8443e7dcb21cd7d98cc8190a2c57195e51471ebfbde690f6432", func := "calamus/calamuslaw22.ArcLengths", spec := "arcLengths", unfollowed := true, recurses := true, named := ["math/bits.divideError", "math/bits.overflowError"], plainKeys := false, apart := false }
def ArcLengthsSaid : Prop := arcLengthsRow.holds Try.pinned (OpenSpec.ofChange arcLengthsSpec)

/-- ITS FALSE NEIGHBOUR: 'it returns false'. Refute it at one input. -/
def arcLengthsWrong : ChangeSpec := { name := "arcLengths", fn := fun _ => fun
  | [d1, d2, d3] => { results := [.lit (.bool false)], args := [d1, d2, d3] }
  | _ => none }
def ArcLengthsWrongFalsely : Prop := arcLengthsRow.holds Try.pinned (OpenSpec.ofChange arcLengthsWrong)

/-- 'calamuslaw22.ArcNear': WHATEVER THE INPUT: true; the input reads as it did. -/
def arcNearSpec : ChangeSpec := { name := "arcNear", fn := fun _ => fun
  | [d1, d2, d3] => { results := [.lit (.bool true)], args := [d1, d2, d3] }
  | _ => none }
def arcNearRow : OpenClaim := { program := "ytckochcocflleaa", sum := "9d0a6a69eb49a8443e7dcb21cd7d98cc8190a2c57195e51471ebfbde690f6432", func := "calamus/calamuslaw22.ArcNear", spec := "arcNear", unfollowed := true, recurses := true, named := ["math/bits.divideError", "math/bits.overflowError"], plainKeys := false, apart := false }
def ArcNearSaid : Prop := arcNearRow.holds Try.pinned (OpenSpec.ofChange arcNearSpec)

/-- ITS FALSE NEIGHBOUR: 'it returns false'. Refute it at one input. -/
def arcNearWrong : ChangeSpec := { name := "arcNear", fn := fun _ => fun
  | [d1, d2, d3] => { results := [.lit (.bool false)], args := [d1, d2, d3] }
  | _ => none }
def ArcNearWrongFalsely : Prop := arcNearRow.holds Try.pinned (OpenSpec.ofChange arcNearWrong)

/-- 'calamuslaw22.ArcRounds': WHATEVER THE INPUT: true; the input reads as it did. -/
def arcRoundsSpec : ChangeSpec := { name := "arcRounds", fn := fun _ => fun
  | [d1, d2, d3] => { results := [.lit (.bool true)], args := [d1, d2, d3] }
  | _ => none }
def arcRoundsRow : OpenClaim := { program := "ytckochcocflleaa", sum := "9d0a6a69eb49a8443e7dcb21cd7d98cc8190a2c57195e51471ebfbde690f6432", func := "calamus/calamuslaw22.ArcRounds", spec := "arcRounds", unfollowed := true, recurses := true, named := ["math/bits.divideError", "math/bits.overflowError"], plainKeys := false, apart := false }
def ArcRoundsSaid : Prop := arcRoundsRow.holds Try.pinned (OpenSpec.ofChange arcRoundsSpec)

/-- ITS FALSE NEIGHBOUR: 'it returns false'. Refute it at one input. -/
def arcRoundsWrong : ChangeSpec := { name := "arcRounds", fn := fun _ => fun
  | [d1, d2, d3] => { results := [.lit (.bool false)], args := [d1, d2, d3] }
  | _ => none }
def ArcRoundsWrongFalsely : Prop := arcRoundsRow.holds Try.pinned (OpenSpec.ofChange arcRoundsWrong)

/- THE SECOND FORM. 'bulk': how many values and letters a reading holds, each counted each time it is reached (what is shared counts as often as it is met; a slice's spare places count too). A statement '..UptoSaid' is the law's where the arguments, and the package variables that the reading takes, are together of bulk at most 1048576: NARROWER than '..Said'. Prove '..Said' where nothing that the law and all that it calls make is longer than what came in: it says more and counts as full. Else prove '..UptoSaid'. A law counts once. -/
mutual
def uptoBulk {H : Type} : DataW H → Nat
  | .lit (.string bytes) => bytes.length + 1
  | .lit _ => 1
  | .nil => 1
  | .ptr d => uptoBulk d + 1
  | .slice elems spare => uptoBulkAll elems + uptoBulkAll spare + 1
  | .agg parts => uptoBulkAll parts + 1
  | .iface _ d => uptoBulk d + 1
  | .map entries => uptoBulkEntries entries + 1
  | .held _ => 1
def uptoBulkAll {H : Type} : List (DataW H) → Nat
  | [] => 0
  | d :: r => uptoBulk d + uptoBulkAll r
def uptoBulkEntries {H : Type} : List (Lit × DataW H) → Nat
  | [] => 0
  | x :: r => uptoBulkEntry x + uptoBulkEntries r
def uptoBulkEntry {H : Type} : Lit × DataW H → Nat
  | (.string bytes, d) => bytes.length + uptoBulk d + 1
  | (_, d) => uptoBulk d + 1
 end
def uptoSmall : (H : Type) → List (DataW H) → Bool := fun _ ds => decide (uptoBulkAll ds ≤ 1048576)
def OpenSpec.upto (s : _root_.Go.ChangeSpec) : _root_.Go.OpenSpec := { _root_.Go.OpenSpec.ofChange s with cond := some uptoSmall }

/-- 'calamuslaw01.WideRing', WHERE WHAT IT READS IS OF BULK AT MOST 1048576: true; the input reads as it did. -/
def wideRingUptoRow : OpenClaim := { program := "ytckochcocflleaa", sum := "9d0a6a69eb49a8443e7dcb21cd7d98cc8190a2c57195e51471ebfbde690f6432", func := "calamus/calamuslaw01.WideRing", spec := "wideRing", inPlace := ["math/bits.Add64", "math/bits.Sub64"], named := ["math/bits.divideError", "math/bits.overflowError"], plainKeys := false, apart := false, narrowed := true }
def WideRingUptoSaid : Prop := wideRingUptoRow.holds Try.pinned (OpenSpec.upto wideRingSpec)

/-- 'calamuslaw16.PixelOf', WHERE WHAT IT READS IS OF BULK AT MOST 1048576: true; the input reads as it did. -/
def pixelOfUptoRow : OpenClaim := { program := "ytckochcocflleaa", sum := "9d0a6a69eb49a8443e7dcb21cd7d98cc8190a2c57195e51471ebfbde690f6432", func := "calamus/calamuslaw16.PixelOf", spec := "pixelOf", inPlace := ["math/bits.Add64"], unfollowed := true, recurses := true, named := ["math/bits.divideError", "math/bits.overflowError"], plainKeys := false, apart := false, narrowed := true }
def PixelOfUptoSaid : Prop := pixelOfUptoRow.holds Try.pinned (OpenSpec.upto pixelOfSpec)

/-- 'calamuslaw16.PixelHits', WHERE WHAT IT READS IS OF BULK AT MOST 1048576: true; the input reads as it did. -/
def pixelHitsUptoRow : OpenClaim := { program := "ytckochcocflleaa", sum := "9d0a6a69eb49a8443e7dcb21cd7d98cc8190a2c57195e51471ebfbde690f6432", func := "calamus/calamuslaw16.PixelHits", spec := "pixelHits", inPlace := ["math/bits.Add64"], unfollowed := true, recurses := true, named := ["math/bits.divideError", "math/bits.overflowError"], plainKeys := false, apart := false, narrowed := true }
def PixelHitsUptoSaid : Prop := pixelHitsUptoRow.holds Try.pinned (OpenSpec.upto pixelHitsSpec)

/-- 'calamuslaw16.PixelBack', WHERE WHAT IT READS IS OF BULK AT MOST 1048576: true; the input reads as it did. -/
def pixelBackUptoRow : OpenClaim := { program := "ytckochcocflleaa", sum := "9d0a6a69eb49a8443e7dcb21cd7d98cc8190a2c57195e51471ebfbde690f6432", func := "calamus/calamuslaw16.PixelBack", spec := "pixelBack", inPlace := ["math/bits.Add64"], unfollowed := true, recurses := true, named := ["math/bits.divideError", "math/bits.overflowError"], plainKeys := false, apart := false, narrowed := true }
def PixelBackUptoSaid : Prop := pixelBackUptoRow.holds Try.pinned (OpenSpec.upto pixelBackSpec)

/-- 'calamuslaw16.PixelMet', WHERE WHAT IT READS IS OF BULK AT MOST 1048576: true; the input reads as it did. -/
def pixelMetUptoRow : OpenClaim := { program := "ytckochcocflleaa", sum := "9d0a6a69eb49a8443e7dcb21cd7d98cc8190a2c57195e51471ebfbde690f6432", func := "calamus/calamuslaw16.PixelMet", spec := "pixelMet", inPlace := ["math/bits.Add64"], unfollowed := true, recurses := true, named := ["math/bits.divideError", "math/bits.overflowError"], plainKeys := false, apart := false, narrowed := true }
def PixelMetUptoSaid : Prop := pixelMetUptoRow.holds Try.pinned (OpenSpec.upto pixelMetSpec)

/-- 'calamuslaw22.ArcAlong', WHERE WHAT IT READS IS OF BULK AT MOST 1048576: true; the input reads as it did. -/
def arcAlongUptoRow : OpenClaim := { program := "ytckochcocflleaa", sum := "9d0a6a69eb49a8443e7dcb21cd7d98cc8190a2c57195e51471ebfbde690f6432", func := "calamus/calamuslaw22.ArcAlong", spec := "arcAlong", unfollowed := true, recurses := true, named := ["math/bits.divideError", "math/bits.overflowError"], plainKeys := false, apart := false, narrowed := true }
def ArcAlongUptoSaid : Prop := arcAlongUptoRow.holds Try.pinned (OpenSpec.upto arcAlongSpec)

/-- 'calamuslaw22.ArcDiscs', WHERE WHAT IT READS IS OF BULK AT MOST 1048576: true; the input reads as it did. -/
def arcDiscsUptoRow : OpenClaim := { program := "ytckochcocflleaa", sum := "9d0a6a69eb49a8443e7dcb21cd7d98cc8190a2c57195e51471ebfbde690f6432", func := "calamus/calamuslaw22.ArcDiscs", spec := "arcDiscs", unfollowed := true, recurses := true, named := ["math/bits.divideError", "math/bits.overflowError"], plainKeys := false, apart := false, narrowed := true }
def ArcDiscsUptoSaid : Prop := arcDiscsUptoRow.holds Try.pinned (OpenSpec.upto arcDiscsSpec)

/-- 'calamuslaw22.ArcLengths', WHERE WHAT IT READS IS OF BULK AT MOST 1048576: true; the input reads as it did. -/
def arcLengthsUptoRow : OpenClaim := { program := "ytckochcocflleaa", sum := "9d0a6a69eb49a8443e7dcb21cd7d98cc8190a2c57195e51471ebfbde690f6432", func := "calamus/calamuslaw22.ArcLengths", spec := "arcLengths", unfollowed := true, recurses := true, named := ["math/bits.divideError", "math/bits.overflowError"], plainKeys := false, apart := false, narrowed := true }
def ArcLengthsUptoSaid : Prop := arcLengthsUptoRow.holds Try.pinned (OpenSpec.upto arcLengthsSpec)

/-- 'calamuslaw22.ArcNear', WHERE WHAT IT READS IS OF BULK AT MOST 1048576: true; the input reads as it did. -/
def arcNearUptoRow : OpenClaim := { program := "ytckochcocflleaa", sum := "9d0a6a69eb49a8443e7dcb21cd7d98cc8190a2c57195e51471ebfbde690f6432", func := "calamus/calamuslaw22.ArcNear", spec := "arcNear", unfollowed := true, recurses := true, named := ["math/bits.divideError", "math/bits.overflowError"], plainKeys := false, apart := false, narrowed := true }
def ArcNearUptoSaid : Prop := arcNearUptoRow.holds Try.pinned (OpenSpec.upto arcNearSpec)

/-- 'calamuslaw22.ArcRounds', WHERE WHAT IT READS IS OF BULK AT MOST 1048576: true; the input reads as it did. -/
def arcRoundsUptoRow : OpenClaim := { program := "ytckochcocflleaa", sum := "9d0a6a69eb49a8443e7dcb21cd7d98cc8190a2c57195e51471ebfbde690f6432", func := "calamus/calamuslaw22.ArcRounds", spec := "arcRounds", unfollowed := true, recurses := true, named := ["math/bits.divideError", "math/bits.overflowError"], plainKeys := false, apart := false, narrowed := true }
def ArcRoundsUptoSaid : Prop := arcRoundsUptoRow.holds Try.pinned (OpenSpec.upto arcRoundsSpec)

end Rows
end Go.Proofs.Ytckochcocflleaa
