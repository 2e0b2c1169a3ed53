/-
  No cell of these rows narrows 'for every input' (looked for: loops, veiled, ifaces, maps, wideKeys, modest, calm, conditions, laid).
  DERIVED. THE GIVEN ROWS OF THIS SEAT. 8 by the template 'for every input the law returns true; each argument reads behind the call as it read before'; 0 by the template 'total and deterministic' (their statements: YtmimdicflmgchaaTotals.lean).
  GIVEN WITH THE SEED: the statements are not yours to turn. If you find one false, say at which input.
  Laid BY PROGRAM, IN A SANDBOX (cutbox-rows.mjs): the forced cells as the released guide's own fill.sh prints them over the translation 1ec0d4f9bc2282e8… (all of the seat's roots in one cut). By AI agents, Wed Nov 11 2026. No macro, syntax, notation, axiom, sorry.
-/
import Derived.Test.YtmimdicflmgchaaChecked
import GoSem.Claim
import GoSem.ClaimJoined
import GoSem.ClaimMapViews
import Derived.JoinedTies
import Derived.KernelRfl
namespace Go.Proofs.Ytmimdicflmgchaa
/- THE CELL 'sum', in the pinned program and in every row, IS THE sha256 OF THE DUMP (.gsa) THAT YtmimdicflmgchaaProg.lean LOADS. Nothing in Lean hashes anything: it is a label: what it is worth is what the hold of that sum in a sandbox is worth. -/
noncomputable def Try.pinned : Pinned := { name := "ytmimdicflmgchaa", sum := "1ec0d4f9bc2282e814e6e28edb245a37c6eb50850ca4a0df099a9f9fc8e624f0", checked := Try.checked }
namespace Rows
def none {H : Type} : Left H := { results := [], args := [] }

/-- 'calamuslaw15.CrossOn': WHATEVER THE INPUT: true; the input reads as it did. -/
def crossOnSpec : ChangeSpec := { name := "crossOn", fn := fun _ => fun
  | [d1, d2] => { results := [.lit (.bool true)], args := [d1, d2] }
  | _ => none }
def crossOnRow : OpenClaim := { program := "ytmimdicflmgchaa", sum := "1ec0d4f9bc2282e814e6e28edb245a37c6eb50850ca4a0df099a9f9fc8e624f0", func := "calamus/calamuslaw15.CrossOn", spec := "crossOn", inPlace := ["math/bits.Add64"], unfollowed := true, recurses := true, named := ["math/bits.divideError", "math/bits.overflowError"], plainKeys := false, apart := false }
def CrossOnSaid : Prop := crossOnRow.holds Try.pinned (OpenSpec.ofChange crossOnSpec)

/-- ITS FALSE NEIGHBOUR: 'it returns false'. Refute it at one input. -/
def crossOnWrong : ChangeSpec := { name := "crossOn", fn := fun _ => fun
  | [d1, d2] => { results := [.lit (.bool false)], args := [d1, d2] }
  | _ => none }
def CrossOnWrongFalsely : Prop := crossOnRow.holds Try.pinned (OpenSpec.ofChange crossOnWrong)

/-- 'calamuslaw15.CrossSame': WHATEVER THE INPUT: true; the input reads as it did. -/
def crossSameSpec : ChangeSpec := { name := "crossSame", fn := fun _ => fun
  | [d] => { results := [.lit (.bool true)], args := [d] }
  | _ => none }
def crossSameRow : OpenClaim := { program := "ytmimdicflmgchaa", sum := "1ec0d4f9bc2282e814e6e28edb245a37c6eb50850ca4a0df099a9f9fc8e624f0", func := "calamus/calamuslaw15.CrossSame", spec := "crossSame", inPlace := ["math/bits.Add64"], unfollowed := true, recurses := true, named := ["math/bits.divideError", "math/bits.overflowError"], plainKeys := false, apart := false }
def CrossSameSaid : Prop := crossSameRow.holds Try.pinned (OpenSpec.ofChange crossSameSpec)

/-- ITS FALSE NEIGHBOUR: 'it returns false'. Refute it at one input. -/
def crossSameWrong : ChangeSpec := { name := "crossSame", fn := fun _ => fun
  | [d] => { results := [.lit (.bool false)], args := [d] }
  | _ => none }
def CrossSameWrongFalsely : Prop := crossSameRow.holds Try.pinned (OpenSpec.ofChange crossSameWrong)

/-- 'calamuslaw15.CrossMoves': WHATEVER THE INPUT: true; the input reads as it did. -/
def crossMovesSpec : ChangeSpec := { name := "crossMoves", fn := fun _ => fun
  | [d1, d2] => { results := [.lit (.bool true)], args := [d1, d2] }
  | _ => none }
def crossMovesRow : OpenClaim := { program := "ytmimdicflmgchaa", sum := "1ec0d4f9bc2282e814e6e28edb245a37c6eb50850ca4a0df099a9f9fc8e624f0", func := "calamus/calamuslaw15.CrossMoves", spec := "crossMoves", inPlace := ["math/bits.Add64"], unfollowed := true, recurses := true, named := ["math/bits.divideError", "math/bits.overflowError"], plainKeys := false, apart := false }
def CrossMovesSaid : Prop := crossMovesRow.holds Try.pinned (OpenSpec.ofChange crossMovesSpec)

/-- ITS FALSE NEIGHBOUR: 'it returns false'. Refute it at one input. -/
def crossMovesWrong : ChangeSpec := { name := "crossMoves", fn := fun _ => fun
  | [d1, d2] => { results := [.lit (.bool false)], args := [d1, d2] }
  | _ => none }
def CrossMovesWrongFalsely : Prop := crossMovesRow.holds Try.pinned (OpenSpec.ofChange crossMovesWrong)

/-- 'calamuslaw15.CrossIn': WHATEVER THE INPUT: true; the input reads as it did. -/
def crossInSpec : ChangeSpec := { name := "crossIn", fn := fun _ => fun
  | [d] => { results := [.lit (.bool true)], args := [d] }
  | _ => none }
def crossInRow : OpenClaim := { program := "ytmimdicflmgchaa", sum := "1ec0d4f9bc2282e814e6e28edb245a37c6eb50850ca4a0df099a9f9fc8e624f0", func := "calamus/calamuslaw15.CrossIn", spec := "crossIn", inPlace := ["math/bits.Add64"], unfollowed := true, recurses := true, named := ["math/bits.divideError", "math/bits.overflowError"], plainKeys := false, apart := false }
def CrossInSaid : Prop := crossInRow.holds Try.pinned (OpenSpec.ofChange crossInSpec)

/-- ITS FALSE NEIGHBOUR: 'it returns false'. Refute it at one input. -/
def crossInWrong : ChangeSpec := { name := "crossIn", fn := fun _ => fun
  | [d] => { results := [.lit (.bool false)], args := [d] }
  | _ => none }
def CrossInWrongFalsely : Prop := crossInRow.holds Try.pinned (OpenSpec.ofChange crossInWrong)

/-- 'calamuslaw16.PixelOf': WHATEVER THE INPUT: true; the input reads as it did. -/
def pixelOfSpec : ChangeSpec := { name := "pixelOf", fn := fun _ => fun
  | [d] => { results := [.lit (.bool true)], args := [d] }
  | _ => none }
def pixelOfRow : OpenClaim := { program := "ytmimdicflmgchaa", sum := "1ec0d4f9bc2282e814e6e28edb245a37c6eb50850ca4a0df099a9f9fc8e624f0", func := "calamus/calamuslaw16.PixelOf", spec := "pixelOf", inPlace := ["math/bits.Add64"], unfollowed := true, recurses := true, named := ["math/bits.divideError", "math/bits.overflowError"], plainKeys := false, apart := false }
def PixelOfSaid : Prop := pixelOfRow.holds Try.pinned (OpenSpec.ofChange pixelOfSpec)

/-- ITS FALSE NEIGHBOUR: 'it returns false'. Refute it at one input. -/
def pixelOfWrong : ChangeSpec := { name := "pixelOf", fn := fun _ => fun
  | [d] => { results := [.lit (.bool false)], args := [d] }
  | _ => none }
def PixelOfWrongFalsely : Prop := pixelOfRow.holds Try.pinned (OpenSpec.ofChange pixelOfWrong)

/-- 'calamuslaw16.PixelHits': WHATEVER THE INPUT: true; the input reads as it did. -/
def pixelHitsSpec : ChangeSpec := { name := "pixelHits", fn := fun _ => fun
  | [d1, d2] => { results := [.lit (.bool true)], args := [d1, d2] }
  | _ => none }
def pixelHitsRow : OpenClaim := { program := "ytmimdicflmgchaa", sum := "1ec0d4f9bc2282e814e6e28edb245a37c6eb50850ca4a0df099a9f9fc8e624f0", func := "calamus/calamuslaw16.PixelHits", spec := "pixelHits", inPlace := ["math/bits.Add64"], unfollowed := true, recurses := true, named := ["math/bits.divideError", "math/bits.overflowError"], plainKeys := false, apart := false }
def PixelHitsSaid : Prop := pixelHitsRow.holds Try.pinned (OpenSpec.ofChange pixelHitsSpec)

/-- ITS FALSE NEIGHBOUR: 'it returns false'. Refute it at one input. -/
def pixelHitsWrong : ChangeSpec := { name := "pixelHits", fn := fun _ => fun
  | [d1, d2] => { results := [.lit (.bool false)], args := [d1, d2] }
  | _ => none }
def PixelHitsWrongFalsely : Prop := pixelHitsRow.holds Try.pinned (OpenSpec.ofChange pixelHitsWrong)

/-- 'calamuslaw16.PixelBack': WHATEVER THE INPUT: true; the input reads as it did. -/
def pixelBackSpec : ChangeSpec := { name := "pixelBack", fn := fun _ => fun
  | [d] => { results := [.lit (.bool true)], args := [d] }
  | _ => none }
def pixelBackRow : OpenClaim := { program := "ytmimdicflmgchaa", sum := "1ec0d4f9bc2282e814e6e28edb245a37c6eb50850ca4a0df099a9f9fc8e624f0", func := "calamus/calamuslaw16.PixelBack", spec := "pixelBack", inPlace := ["math/bits.Add64"], unfollowed := true, recurses := true, named := ["math/bits.divideError", "math/bits.overflowError"], plainKeys := false, apart := false }
def PixelBackSaid : Prop := pixelBackRow.holds Try.pinned (OpenSpec.ofChange pixelBackSpec)

/-- ITS FALSE NEIGHBOUR: 'it returns false'. Refute it at one input. -/
def pixelBackWrong : ChangeSpec := { name := "pixelBack", fn := fun _ => fun
  | [d] => { results := [.lit (.bool false)], args := [d] }
  | _ => none }
def PixelBackWrongFalsely : Prop := pixelBackRow.holds Try.pinned (OpenSpec.ofChange pixelBackWrong)

/-- 'calamuslaw16.PixelMet': WHATEVER THE INPUT: true; the input reads as it did. -/
def pixelMetSpec : ChangeSpec := { name := "pixelMet", fn := fun _ => fun
  | [d] => { results := [.lit (.bool true)], args := [d] }
  | _ => none }
def pixelMetRow : OpenClaim := { program := "ytmimdicflmgchaa", sum := "1ec0d4f9bc2282e814e6e28edb245a37c6eb50850ca4a0df099a9f9fc8e624f0", func := "calamus/calamuslaw16.PixelMet", spec := "pixelMet", inPlace := ["math/bits.Add64"], unfollowed := true, recurses := true, named := ["math/bits.divideError", "math/bits.overflowError"], plainKeys := false, apart := false }
def PixelMetSaid : Prop := pixelMetRow.holds Try.pinned (OpenSpec.ofChange pixelMetSpec)

/-- ITS FALSE NEIGHBOUR: 'it returns false'. Refute it at one input. -/
def pixelMetWrong : ChangeSpec := { name := "pixelMet", fn := fun _ => fun
  | [d] => { results := [.lit (.bool false)], args := [d] }
  | _ => none }
def PixelMetWrongFalsely : Prop := pixelMetRow.holds Try.pinned (OpenSpec.ofChange pixelMetWrong)

/- THE SECOND FORM. 'bulk': how many values and letters a reading holds, each counted each time it is reached (what is shared counts as often as it is met; a slice's spare places count too). A statement '..UptoSaid' is the law's where the arguments, and the package variables that the reading takes, are together of bulk at most 1048576: NARROWER than '..Said'. Prove '..Said' where nothing that the law and all that it calls make is longer than what came in: it says more and counts as full. Else prove '..UptoSaid'. A law counts once. -/
mutual
def uptoBulk {H : Type} : DataW H → Nat
  | .lit (.string bytes) => bytes.length + 1
  | .lit _ => 1
  | .nil => 1
  | .ptr d => uptoBulk d + 1
  | .slice elems spare => uptoBulkAll elems + uptoBulkAll spare + 1
  | .agg parts => uptoBulkAll parts + 1
  | .iface _ d => uptoBulk d + 1
  | .map entries => uptoBulkEntries entries + 1
  | .held _ => 1
def uptoBulkAll {H : Type} : List (DataW H) → Nat
  | [] => 0
  | d :: r => uptoBulk d + uptoBulkAll r
def uptoBulkEntries {H : Type} : List (Lit × DataW H) → Nat
  | [] => 0
  | x :: r => uptoBulkEntry x + uptoBulkEntries r
def uptoBulkEntry {H : Type} : Lit × DataW H → Nat
  | (.string bytes, d) => bytes.length + uptoBulk d + 1
  | (_, d) => uptoBulk d + 1
 end
def uptoSmall : (H : Type) → List (DataW H) → Bool := fun _ ds => decide (uptoBulkAll ds ≤ 1048576)
def OpenSpec.upto (s : _root_.Go.ChangeSpec) : _root_.Go.OpenSpec := { _root_.Go.OpenSpec.ofChange s with cond := some uptoSmall }

/-- 'calamuslaw15.CrossOn', WHERE WHAT IT READS IS OF BULK AT MOST 1048576: true; the input reads as it did. -/
def crossOnUptoRow : OpenClaim := { program := "ytmimdicflmgchaa", sum := "1ec0d4f9bc2282e814e6e28edb245a37c6eb50850ca4a0df099a9f9fc8e624f0", func := "calamus/calamuslaw15.CrossOn", spec := "crossOn", inPlace := ["math/bits.Add64"], unfollowed := true, recurses := true, named := ["math/bits.divideError", "math/bits.overflowError"], plainKeys := false, apart := false, narrowed := true }
def CrossOnUptoSaid : Prop := crossOnUptoRow.holds Try.pinned (OpenSpec.upto crossOnSpec)

/-- 'calamuslaw15.CrossSame', WHERE WHAT IT READS IS OF BULK AT MOST 1048576: true; the input reads as it did. -/
def crossSameUptoRow : OpenClaim := { program := "ytmimdicflmgchaa", sum := "1ec0d4f9bc2282e814e6e28edb245a37c6eb50850ca4a0df099a9f9fc8e624f0", func := "calamus/calamuslaw15.CrossSame", spec := "crossSame", inPlace := ["math/bits.Add64"], unfollowed := true, recurses := true, named := ["math/bits.divideError", "math/bits.overflowError"], plainKeys := false, apart := false, narrowed := true }
def CrossSameUptoSaid : Prop := crossSameUptoRow.holds Try.pinned (OpenSpec.upto crossSameSpec)

/-- 'calamuslaw15.CrossMoves', WHERE WHAT IT READS IS OF BULK AT MOST 1048576: true; the input reads as it did. -/
def crossMovesUptoRow : OpenClaim := { program := "ytmimdicflmgchaa", sum := "1ec0d4f9bc2282e814e6e28edb245a37c6eb50850ca4a0df099a9f9fc8e624f0", func := "calamus/calamuslaw15.CrossMoves", spec := "crossMoves", inPlace := ["math/bits.Add64"], unfollowed := true, recurses := true, named := ["math/bits.divideError", "math/bits.overflowError"], plainKeys := false, apart := false, narrowed := true }
def CrossMovesUptoSaid : Prop := crossMovesUptoRow.holds Try.pinned (OpenSpec.upto crossMovesSpec)

/-- 'calamuslaw15.CrossIn', WHERE WHAT IT READS IS OF BULK AT MOST 1048576: true; the input reads as it did. -/
def crossInUptoRow : OpenClaim := { program := "ytmimdicflmgchaa", sum := "1ec0d4f9bc2282e814e6e28edb245a37c6eb50850ca4a0df099a9f9fc8e624f0", func := "calamus/calamuslaw15.CrossIn", spec := "crossIn", inPlace := ["math/bits.Add64"], unfollowed := true, recurses := true, named := ["math/bits.divideError", "math/bits.overflowError"], plainKeys := false, apart := false, narrowed := true }
def CrossInUptoSaid : Prop := crossInUptoRow.holds Try.pinned (OpenSpec.upto crossInSpec)

/-- 'calamuslaw16.PixelOf', WHERE WHAT IT READS IS OF BULK AT MOST 1048576: true; the input reads as it did. -/
def pixelOfUptoRow : OpenClaim := { program := "ytmimdicflmgchaa", sum := "1ec0d4f9bc2282e814e6e28edb245a37c6eb50850ca4a0df099a9f9fc8e624f0", func := "calamus/calamuslaw16.PixelOf", spec := "pixelOf", inPlace := ["math/bits.Add64"], unfollowed := true, recurses := true, named := ["math/bits.divideError", "math/bits.overflowError"], plainKeys := false, apart := false, narrowed := true }
def PixelOfUptoSaid : Prop := pixelOfUptoRow.holds Try.pinned (OpenSpec.upto pixelOfSpec)

/-- 'calamuslaw16.PixelHits', WHERE WHAT IT READS IS OF BULK AT MOST 1048576: true; the input reads as it did. -/
def pixelHitsUptoRow : OpenClaim := { program := "ytmimdicflmgchaa", sum := "1ec0d4f9bc2282e814e6e28edb245a37c6eb50850ca4a0df099a9f9fc8e624f0", func := "calamus/calamuslaw16.PixelHits", spec := "pixelHits", inPlace := ["math/bits.Add64"], unfollowed := true, recurses := true, named := ["math/bits.divideError", "math/bits.overflowError"], plainKeys := false, apart := false, narrowed := true }
def PixelHitsUptoSaid : Prop := pixelHitsUptoRow.holds Try.pinned (OpenSpec.upto pixelHitsSpec)

/-- 'calamuslaw16.PixelBack', WHERE WHAT IT READS IS OF BULK AT MOST 1048576: true; the input reads as it did. -/
def pixelBackUptoRow : OpenClaim := { program := "ytmimdicflmgchaa", sum := "1ec0d4f9bc2282e814e6e28edb245a37c6eb50850ca4a0df099a9f9fc8e624f0", func := "calamus/calamuslaw16.PixelBack", spec := "pixelBack", inPlace := ["math/bits.Add64"], unfollowed := true, recurses := true, named := ["math/bits.divideError", "math/bits.overflowError"], plainKeys := false, apart := false, narrowed := true }
def PixelBackUptoSaid : Prop := pixelBackUptoRow.holds Try.pinned (OpenSpec.upto pixelBackSpec)

/-- 'calamuslaw16.PixelMet', WHERE WHAT IT READS IS OF BULK AT MOST 1048576: true; the input reads as it did. -/
def pixelMetUptoRow : OpenClaim := { program := "ytmimdicflmgchaa", sum := "1ec0d4f9bc2282e814e6e28edb245a37c6eb50850ca4a0df099a9f9fc8e624f0", func := "calamus/calamuslaw16.PixelMet", spec := "pixelMet", inPlace := ["math/bits.Add64"], unfollowed := true, recurses := true, named := ["math/bits.divideError", "math/bits.overflowError"], plainKeys := false, apart := false, narrowed := true }
def PixelMetUptoSaid : Prop := pixelMetUptoRow.holds Try.pinned (OpenSpec.upto pixelMetSpec)

end Rows
end Go.Proofs.Ytmimdicflmgchaa
