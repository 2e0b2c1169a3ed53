/-
  No cell of these rows narrows 'for every input' (looked for: loops, veiled, ifaces, maps, wideKeys, modest, calm, conditions, laid).
  DERIVED. THE GIVEN ROWS OF THIS SEAT. 10 by the template 'for every input the law returns true; each argument reads behind the call as it read before'; 0 by the template 'total and deterministic' (their statements: YtaojdflnfdabhaaTotals.lean).
  GIVEN WITH THE SEED: the statements are not yours to turn. If you find one false, say at which input.
  Laid BY PROGRAM, IN A SANDBOX (cutbox-rows.mjs): the forced cells as the released guide's own fill.sh prints them over the translation 88a827e27a9ae09d… (all of the seat's roots in one cut). By AI agents, Wed Nov 11 2026. No macro, syntax, notation, axiom, sorry.
-/
import Derived.Test.YtaojdflnfdabhaaChecked
import GoSem.Claim
import GoSem.ClaimJoined
import GoSem.ClaimMapViews
import Derived.JoinedTies
import Derived.KernelRfl
namespace Go.Proofs.Ytaojdflnfdabhaa
/- THE CELL 'sum', in the pinned program and in every row, IS THE sha256 OF THE DUMP (.gsa) THAT YtaojdflnfdabhaaProg.lean LOADS. Nothing in Lean hashes anything: it is a label: what it is worth is what the hold of that sum in a sandbox is worth. -/
noncomputable def Try.pinned : Pinned := { name := "ytaojdflnfdabhaa", sum := "88a827e27a9ae09dae3bca6bbb75cfe88c7adbfc852eef1d378f15bb96edc007", checked := Try.checked }
namespace Rows
def none {H : Type} : Left H := { results := [], args := [] }

/-- 'calamuslaw02.BeReads': WHATEVER THE INPUT: true; the input reads as it did. -/
def beReadsSpec : ChangeSpec := { name := "beReads", fn := fun _ => fun
  | [d1, d2, d3] => { results := [.lit (.bool true)], args := [d1, d2, d3] }
  | _ => none }
def beReadsRow : OpenClaim := { program := "ytaojdflnfdabhaa", sum := "88a827e27a9ae09dae3bca6bbb75cfe88c7adbfc852eef1d378f15bb96edc007", func := "calamus/calamuslaw02.BeReads", spec := "beReads", apart := false }
def BeReadsSaid : Prop := beReadsRow.holds Try.pinned (OpenSpec.ofChange beReadsSpec)

/-- ITS FALSE NEIGHBOUR: 'it returns false'. Refute it at one input. -/
def beReadsWrong : ChangeSpec := { name := "beReads", fn := fun _ => fun
  | [d1, d2, d3] => { results := [.lit (.bool false)], args := [d1, d2, d3] }
  | _ => none }
def BeReadsWrongFalsely : Prop := beReadsRow.holds Try.pinned (OpenSpec.ofChange beReadsWrong)

/-- 'calamuslaw02.BePuts': WHATEVER THE INPUT: true; the input reads as it did. -/
def bePutsSpec : ChangeSpec := { name := "bePuts", fn := fun _ => fun
  | [d1, d2] => { results := [.lit (.bool true)], args := [d1, d2] }
  | _ => none }
def bePutsRow : OpenClaim := { program := "ytaojdflnfdabhaa", sum := "88a827e27a9ae09dae3bca6bbb75cfe88c7adbfc852eef1d378f15bb96edc007", func := "calamus/calamuslaw02.BePuts", spec := "bePuts", apart := false }
def BePutsSaid : Prop := bePutsRow.holds Try.pinned (OpenSpec.ofChange bePutsSpec)

/-- ITS FALSE NEIGHBOUR: 'it returns false'. Refute it at one input. -/
def bePutsWrong : ChangeSpec := { name := "bePuts", fn := fun _ => fun
  | [d1, d2] => { results := [.lit (.bool false)], args := [d1, d2] }
  | _ => none }
def BePutsWrongFalsely : Prop := bePutsRow.holds Try.pinned (OpenSpec.ofChange bePutsWrong)

/-- 'calamuslaw02.BeCuts': WHATEVER THE INPUT: true; the input reads as it did. -/
def beCutsSpec : ChangeSpec := { name := "beCuts", fn := fun _ => fun
  | [d1, d2, d3] => { results := [.lit (.bool true)], args := [d1, d2, d3] }
  | _ => none }
def beCutsRow : OpenClaim := { program := "ytaojdflnfdabhaa", sum := "88a827e27a9ae09dae3bca6bbb75cfe88c7adbfc852eef1d378f15bb96edc007", func := "calamus/calamuslaw02.BeCuts", spec := "beCuts", apart := false }
def BeCutsSaid : Prop := beCutsRow.holds Try.pinned (OpenSpec.ofChange beCutsSpec)

/-- ITS FALSE NEIGHBOUR: 'it returns false'. Refute it at one input. -/
def beCutsWrong : ChangeSpec := { name := "beCuts", fn := fun _ => fun
  | [d1, d2, d3] => { results := [.lit (.bool false)], args := [d1, d2, d3] }
  | _ => none }
def BeCutsWrongFalsely : Prop := beCutsRow.holds Try.pinned (OpenSpec.ofChange beCutsWrong)

/-- 'calamuslaw02.BeBack': WHATEVER THE INPUT: true; the input reads as it did. -/
def beBackSpec : ChangeSpec := { name := "beBack", fn := fun _ => fun
  | [d1, d2, d3] => { results := [.lit (.bool true)], args := [d1, d2, d3] }
  | _ => none }
def beBackRow : OpenClaim := { program := "ytaojdflnfdabhaa", sum := "88a827e27a9ae09dae3bca6bbb75cfe88c7adbfc852eef1d378f15bb96edc007", func := "calamus/calamuslaw02.BeBack", spec := "beBack", apart := false }
def BeBackSaid : Prop := beBackRow.holds Try.pinned (OpenSpec.ofChange beBackSpec)

/-- ITS FALSE NEIGHBOUR: 'it returns false'. Refute it at one input. -/
def beBackWrong : ChangeSpec := { name := "beBack", fn := fun _ => fun
  | [d1, d2, d3] => { results := [.lit (.bool false)], args := [d1, d2, d3] }
  | _ => none }
def BeBackWrongFalsely : Prop := beBackRow.holds Try.pinned (OpenSpec.ofChange beBackWrong)

/-- 'calamuslaw02.BeLaid': WHATEVER THE INPUT: true; the input reads as it did. -/
def beLaidSpec : ChangeSpec := { name := "beLaid", fn := fun _ => fun
  | [d1, d2, d3] => { results := [.lit (.bool true)], args := [d1, d2, d3] }
  | _ => none }
def beLaidRow : OpenClaim := { program := "ytaojdflnfdabhaa", sum := "88a827e27a9ae09dae3bca6bbb75cfe88c7adbfc852eef1d378f15bb96edc007", func := "calamus/calamuslaw02.BeLaid", spec := "beLaid", apart := false }
def BeLaidSaid : Prop := beLaidRow.holds Try.pinned (OpenSpec.ofChange beLaidSpec)

/-- ITS FALSE NEIGHBOUR: 'it returns false'. Refute it at one input. -/
def beLaidWrong : ChangeSpec := { name := "beLaid", fn := fun _ => fun
  | [d1, d2, d3] => { results := [.lit (.bool false)], args := [d1, d2, d3] }
  | _ => none }
def BeLaidWrongFalsely : Prop := beLaidRow.holds Try.pinned (OpenSpec.ofChange beLaidWrong)

/-- 'calamuslaw03.TabsumIs': WHATEVER THE INPUT: true; the input reads as it did. -/
def tabsumIsSpec : ChangeSpec := { name := "tabsumIs", fn := fun _ => fun
  | [d1, d2] => { results := [.lit (.bool true)], args := [d1, d2] }
  | _ => none }
def tabsumIsRow : OpenClaim := { program := "ytaojdflnfdabhaa", sum := "88a827e27a9ae09dae3bca6bbb75cfe88c7adbfc852eef1d378f15bb96edc007", func := "calamus/calamuslaw03.TabsumIs", spec := "tabsumIs", apart := false }
def TabsumIsSaid : Prop := tabsumIsRow.holds Try.pinned (OpenSpec.ofChange tabsumIsSpec)

/-- ITS FALSE NEIGHBOUR: 'it returns false'. Refute it at one input. -/
def tabsumIsWrong : ChangeSpec := { name := "tabsumIs", fn := fun _ => fun
  | [d1, d2] => { results := [.lit (.bool false)], args := [d1, d2] }
  | _ => none }
def TabsumIsWrongFalsely : Prop := tabsumIsRow.holds Try.pinned (OpenSpec.ofChange tabsumIsWrong)

/-- 'calamuslaw03.TabsumPieces': WHATEVER THE INPUT: true; the input reads as it did. -/
def tabsumPiecesSpec : ChangeSpec := { name := "tabsumPieces", fn := fun _ => fun
  | [d1, d2] => { results := [.lit (.bool true)], args := [d1, d2] }
  | _ => none }
def tabsumPiecesRow : OpenClaim := { program := "ytaojdflnfdabhaa", sum := "88a827e27a9ae09dae3bca6bbb75cfe88c7adbfc852eef1d378f15bb96edc007", func := "calamus/calamuslaw03.TabsumPieces", spec := "tabsumPieces", apart := false }
def TabsumPiecesSaid : Prop := tabsumPiecesRow.holds Try.pinned (OpenSpec.ofChange tabsumPiecesSpec)

/-- ITS FALSE NEIGHBOUR: 'it returns false'. Refute it at one input. -/
def tabsumPiecesWrong : ChangeSpec := { name := "tabsumPieces", fn := fun _ => fun
  | [d1, d2] => { results := [.lit (.bool false)], args := [d1, d2] }
  | _ => none }
def TabsumPiecesWrongFalsely : Prop := tabsumPiecesRow.holds Try.pinned (OpenSpec.ofChange tabsumPiecesWrong)

/-- 'calamuslaw03.TabsumPads': WHATEVER THE INPUT: true; the input reads as it did. -/
def tabsumPadsSpec : ChangeSpec := { name := "tabsumPads", fn := fun _ => fun
  | [d1, d2] => { results := [.lit (.bool true)], args := [d1, d2] }
  | _ => none }
def tabsumPadsRow : OpenClaim := { program := "ytaojdflnfdabhaa", sum := "88a827e27a9ae09dae3bca6bbb75cfe88c7adbfc852eef1d378f15bb96edc007", func := "calamus/calamuslaw03.TabsumPads", spec := "tabsumPads", apart := false }
def TabsumPadsSaid : Prop := tabsumPadsRow.holds Try.pinned (OpenSpec.ofChange tabsumPadsSpec)

/-- ITS FALSE NEIGHBOUR: 'it returns false'. Refute it at one input. -/
def tabsumPadsWrong : ChangeSpec := { name := "tabsumPads", fn := fun _ => fun
  | [d1, d2] => { results := [.lit (.bool false)], args := [d1, d2] }
  | _ => none }
def TabsumPadsWrongFalsely : Prop := tabsumPadsRow.holds Try.pinned (OpenSpec.ofChange tabsumPadsWrong)

/-- 'calamuslaw03.TabsumAdjusts': WHATEVER THE INPUT: true; the input reads as it did. -/
def tabsumAdjustsSpec : ChangeSpec := { name := "tabsumAdjusts", fn := fun _ => fun
  | [d1, d2] => { results := [.lit (.bool true)], args := [d1, d2] }
  | _ => none }
def tabsumAdjustsRow : OpenClaim := { program := "ytaojdflnfdabhaa", sum := "88a827e27a9ae09dae3bca6bbb75cfe88c7adbfc852eef1d378f15bb96edc007", func := "calamus/calamuslaw03.TabsumAdjusts", spec := "tabsumAdjusts", apart := false }
def TabsumAdjustsSaid : Prop := tabsumAdjustsRow.holds Try.pinned (OpenSpec.ofChange tabsumAdjustsSpec)

/-- ITS FALSE NEIGHBOUR: 'it returns false'. Refute it at one input. -/
def tabsumAdjustsWrong : ChangeSpec := { name := "tabsumAdjusts", fn := fun _ => fun
  | [d1, d2] => { results := [.lit (.bool false)], args := [d1, d2] }
  | _ => none }
def TabsumAdjustsWrongFalsely : Prop := tabsumAdjustsRow.holds Try.pinned (OpenSpec.ofChange tabsumAdjustsWrong)

/-- 'calamuslaw03.TabsumTurns': WHATEVER THE INPUT: true; the input reads as it did. -/
def tabsumTurnsSpec : ChangeSpec := { name := "tabsumTurns", fn := fun _ => fun
  | [d1, d2, d3] => { results := [.lit (.bool true)], args := [d1, d2, d3] }
  | _ => none }
def tabsumTurnsRow : OpenClaim := { program := "ytaojdflnfdabhaa", sum := "88a827e27a9ae09dae3bca6bbb75cfe88c7adbfc852eef1d378f15bb96edc007", func := "calamus/calamuslaw03.TabsumTurns", spec := "tabsumTurns", apart := false }
def TabsumTurnsSaid : Prop := tabsumTurnsRow.holds Try.pinned (OpenSpec.ofChange tabsumTurnsSpec)

/-- ITS FALSE NEIGHBOUR: 'it returns false'. Refute it at one input. -/
def tabsumTurnsWrong : ChangeSpec := { name := "tabsumTurns", fn := fun _ => fun
  | [d1, d2, d3] => { results := [.lit (.bool false)], args := [d1, d2, d3] }
  | _ => none }
def TabsumTurnsWrongFalsely : Prop := tabsumTurnsRow.holds Try.pinned (OpenSpec.ofChange tabsumTurnsWrong)

/- THE SECOND FORM. 'bulk': how many values and letters a reading holds, each counted each time it is reached (what is shared counts as often as it is met; a slice's spare places count too). A statement '..UptoSaid' is the law's where the arguments, and the package variables that the reading takes, are together of bulk at most 1048576: NARROWER than '..Said'. Prove '..Said' where nothing that the law and all that it calls make is longer than what came in: it says more and counts as full. Else prove '..UptoSaid'. A law counts once. -/
mutual
def uptoBulk {H : Type} : DataW H → Nat
  | .lit (.string bytes) => bytes.length + 1
  | .lit _ => 1
  | .nil => 1
  | .ptr d => uptoBulk d + 1
  | .slice elems spare => uptoBulkAll elems + uptoBulkAll spare + 1
  | .agg parts => uptoBulkAll parts + 1
  | .iface _ d => uptoBulk d + 1
  | .map entries => uptoBulkEntries entries + 1
  | .held _ => 1
def uptoBulkAll {H : Type} : List (DataW H) → Nat
  | [] => 0
  | d :: r => uptoBulk d + uptoBulkAll r
def uptoBulkEntries {H : Type} : List (Lit × DataW H) → Nat
  | [] => 0
  | x :: r => uptoBulkEntry x + uptoBulkEntries r
def uptoBulkEntry {H : Type} : Lit × DataW H → Nat
  | (.string bytes, d) => bytes.length + uptoBulk d + 1
  | (_, d) => uptoBulk d + 1
 end
def uptoSmall : (H : Type) → List (DataW H) → Bool := fun _ ds => decide (uptoBulkAll ds ≤ 1048576)
def OpenSpec.upto (s : _root_.Go.ChangeSpec) : _root_.Go.OpenSpec := { _root_.Go.OpenSpec.ofChange s with cond := some uptoSmall }

/-- 'calamuslaw02.BeReads', WHERE WHAT IT READS IS OF BULK AT MOST 1048576: true; the input reads as it did. -/
def beReadsUptoRow : OpenClaim := { program := "ytaojdflnfdabhaa", sum := "88a827e27a9ae09dae3bca6bbb75cfe88c7adbfc852eef1d378f15bb96edc007", func := "calamus/calamuslaw02.BeReads", spec := "beReads", apart := false, narrowed := true }
def BeReadsUptoSaid : Prop := beReadsUptoRow.holds Try.pinned (OpenSpec.upto beReadsSpec)

/-- 'calamuslaw02.BePuts', WHERE WHAT IT READS IS OF BULK AT MOST 1048576: true; the input reads as it did. -/
def bePutsUptoRow : OpenClaim := { program := "ytaojdflnfdabhaa", sum := "88a827e27a9ae09dae3bca6bbb75cfe88c7adbfc852eef1d378f15bb96edc007", func := "calamus/calamuslaw02.BePuts", spec := "bePuts", apart := false, narrowed := true }
def BePutsUptoSaid : Prop := bePutsUptoRow.holds Try.pinned (OpenSpec.upto bePutsSpec)

/-- 'calamuslaw02.BeCuts', WHERE WHAT IT READS IS OF BULK AT MOST 1048576: true; the input reads as it did. -/
def beCutsUptoRow : OpenClaim := { program := "ytaojdflnfdabhaa", sum := "88a827e27a9ae09dae3bca6bbb75cfe88c7adbfc852eef1d378f15bb96edc007", func := "calamus/calamuslaw02.BeCuts", spec := "beCuts", apart := false, narrowed := true }
def BeCutsUptoSaid : Prop := beCutsUptoRow.holds Try.pinned (OpenSpec.upto beCutsSpec)

/-- 'calamuslaw02.BeBack', WHERE WHAT IT READS IS OF BULK AT MOST 1048576: true; the input reads as it did. -/
def beBackUptoRow : OpenClaim := { program := "ytaojdflnfdabhaa", sum := "88a827e27a9ae09dae3bca6bbb75cfe88c7adbfc852eef1d378f15bb96edc007", func := "calamus/calamuslaw02.BeBack", spec := "beBack", apart := false, narrowed := true }
def BeBackUptoSaid : Prop := beBackUptoRow.holds Try.pinned (OpenSpec.upto beBackSpec)

/-- 'calamuslaw02.BeLaid', WHERE WHAT IT READS IS OF BULK AT MOST 1048576: true; the input reads as it did. -/
def beLaidUptoRow : OpenClaim := { program := "ytaojdflnfdabhaa", sum := "88a827e27a9ae09dae3bca6bbb75cfe88c7adbfc852eef1d378f15bb96edc007", func := "calamus/calamuslaw02.BeLaid", spec := "beLaid", apart := false, narrowed := true }
def BeLaidUptoSaid : Prop := beLaidUptoRow.holds Try.pinned (OpenSpec.upto beLaidSpec)

/-- 'calamuslaw03.TabsumIs', WHERE WHAT IT READS IS OF BULK AT MOST 1048576: true; the input reads as it did. -/
def tabsumIsUptoRow : OpenClaim := { program := "ytaojdflnfdabhaa", sum := "88a827e27a9ae09dae3bca6bbb75cfe88c7adbfc852eef1d378f15bb96edc007", func := "calamus/calamuslaw03.TabsumIs", spec := "tabsumIs", apart := false, narrowed := true }
def TabsumIsUptoSaid : Prop := tabsumIsUptoRow.holds Try.pinned (OpenSpec.upto tabsumIsSpec)

/-- 'calamuslaw03.TabsumPieces', WHERE WHAT IT READS IS OF BULK AT MOST 1048576: true; the input reads as it did. -/
def tabsumPiecesUptoRow : OpenClaim := { program := "ytaojdflnfdabhaa", sum := "88a827e27a9ae09dae3bca6bbb75cfe88c7adbfc852eef1d378f15bb96edc007", func := "calamus/calamuslaw03.TabsumPieces", spec := "tabsumPieces", apart := false, narrowed := true }
def TabsumPiecesUptoSaid : Prop := tabsumPiecesUptoRow.holds Try.pinned (OpenSpec.upto tabsumPiecesSpec)

/-- 'calamuslaw03.TabsumPads', WHERE WHAT IT READS IS OF BULK AT MOST 1048576: true; the input reads as it did. -/
def tabsumPadsUptoRow : OpenClaim := { program := "ytaojdflnfdabhaa", sum := "88a827e27a9ae09dae3bca6bbb75cfe88c7adbfc852eef1d378f15bb96edc007", func := "calamus/calamuslaw03.TabsumPads", spec := "tabsumPads", apart := false, narrowed := true }
def TabsumPadsUptoSaid : Prop := tabsumPadsUptoRow.holds Try.pinned (OpenSpec.upto tabsumPadsSpec)

/-- 'calamuslaw03.TabsumAdjusts', WHERE WHAT IT READS IS OF BULK AT MOST 1048576: true; the input reads as it did. -/
def tabsumAdjustsUptoRow : OpenClaim := { program := "ytaojdflnfdabhaa", sum := "88a827e27a9ae09dae3bca6bbb75cfe88c7adbfc852eef1d378f15bb96edc007", func := "calamus/calamuslaw03.TabsumAdjusts", spec := "tabsumAdjusts", apart := false, narrowed := true }
def TabsumAdjustsUptoSaid : Prop := tabsumAdjustsUptoRow.holds Try.pinned (OpenSpec.upto tabsumAdjustsSpec)

/-- 'calamuslaw03.TabsumTurns', WHERE WHAT IT READS IS OF BULK AT MOST 1048576: true; the input reads as it did. -/
def tabsumTurnsUptoRow : OpenClaim := { program := "ytaojdflnfdabhaa", sum := "88a827e27a9ae09dae3bca6bbb75cfe88c7adbfc852eef1d378f15bb96edc007", func := "calamus/calamuslaw03.TabsumTurns", spec := "tabsumTurns", apart := false, narrowed := true }
def TabsumTurnsUptoSaid : Prop := tabsumTurnsUptoRow.holds Try.pinned (OpenSpec.upto tabsumTurnsSpec)

end Rows
end Go.Proofs.Ytaojdflnfdabhaa
