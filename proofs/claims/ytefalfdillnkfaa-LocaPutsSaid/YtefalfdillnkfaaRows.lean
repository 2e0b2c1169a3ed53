/-
  No cell of these rows narrows 'for every input' (looked for: loops, veiled, ifaces, maps, wideKeys, modest, calm, conditions, laid).
  DERIVED. THE GIVEN ROWS OF THIS SEAT. 6 by the template 'for every input the law returns true; each argument reads behind the call as it read before'; 0 by the template 'total and deterministic' (their statements: YtefalfdillnkfaaTotals.lean).
  GIVEN WITH THE SEED: the statements are not yours to turn. If you find one false, say at which input.
  Laid BY PROGRAM, IN A SANDBOX (cutbox-rows.mjs): the forced cells as the released guide's own fill.sh prints them over the translation cb512b340b9685de… (all of the seat's roots in one cut). By AI agents, Wed Nov 11 2026. No macro, syntax, notation, axiom, sorry.
-/
import Derived.Test.YtefalfdillnkfaaChecked
import GoSem.Claim
import GoSem.ClaimJoined
import GoSem.ClaimMapViews
import Derived.JoinedTies
import Derived.KernelRfl
namespace Go.Proofs.Ytefalfdillnkfaa
/- THE CELL 'sum', in the pinned program and in every row, IS THE sha256 OF THE DUMP (.gsa) THAT YtefalfdillnkfaaProg.lean LOADS. Nothing in Lean hashes anything: it is a label: what it is worth is what the hold of that sum in a sandbox is worth. -/
noncomputable def Try.pinned : Pinned := { name := "ytefalfdillnkfaa", sum := "cb512b340b9685de12eaa3ec9819f2345ac25575edc18bc82f6978ccaa4af718", checked := Try.checked }
namespace Rows
def none {H : Type} : Left H := { results := [], args := [] }

/-- 'calamuslaw06.LocaReads': WHATEVER THE INPUT: true; the input reads as it did. -/
def locaReadsSpec : ChangeSpec := { name := "locaReads", fn := fun _ => fun
  | [d1, d2, d3] => { results := [.lit (.bool true)], args := [d1, d2, d3] }
  | _ => none }
def locaReadsRow : OpenClaim := { program := "ytefalfdillnkfaa", sum := "cb512b340b9685de12eaa3ec9819f2345ac25575edc18bc82f6978ccaa4af718", func := "calamus/calamuslaw06.LocaReads", spec := "locaReads", unfollowed := true, recurses := true, apart := false }
def LocaReadsSaid : Prop := locaReadsRow.holds Try.pinned (OpenSpec.ofChange locaReadsSpec)

/-- ITS FALSE NEIGHBOUR: 'it returns false'. Refute it at one input. -/
def locaReadsWrong : ChangeSpec := { name := "locaReads", fn := fun _ => fun
  | [d1, d2, d3] => { results := [.lit (.bool false)], args := [d1, d2, d3] }
  | _ => none }
def LocaReadsWrongFalsely : Prop := locaReadsRow.holds Try.pinned (OpenSpec.ofChange locaReadsWrong)

/-- 'calamuslaw06.LocaWrites': WHATEVER THE INPUT: true; the input reads as it did. -/
def locaWritesSpec : ChangeSpec := { name := "locaWrites", fn := fun _ => fun
  | [d1, d2] => { results := [.lit (.bool true)], args := [d1, d2] }
  | _ => none }
def locaWritesRow : OpenClaim := { program := "ytefalfdillnkfaa", sum := "cb512b340b9685de12eaa3ec9819f2345ac25575edc18bc82f6978ccaa4af718", func := "calamus/calamuslaw06.LocaWrites", spec := "locaWrites", unfollowed := true, recurses := true, apart := false }
def LocaWritesSaid : Prop := locaWritesRow.holds Try.pinned (OpenSpec.ofChange locaWritesSpec)

/-- ITS FALSE NEIGHBOUR: 'it returns false'. Refute it at one input. -/
def locaWritesWrong : ChangeSpec := { name := "locaWrites", fn := fun _ => fun
  | [d1, d2] => { results := [.lit (.bool false)], args := [d1, d2] }
  | _ => none }
def LocaWritesWrongFalsely : Prop := locaWritesRow.holds Try.pinned (OpenSpec.ofChange locaWritesWrong)

/-- 'calamuslaw06.LocaBack': WHATEVER THE INPUT: true; the input reads as it did. -/
def locaBackSpec : ChangeSpec := { name := "locaBack", fn := fun _ => fun
  | [d1, d2, d3] => { results := [.lit (.bool true)], args := [d1, d2, d3] }
  | _ => none }
def locaBackRow : OpenClaim := { program := "ytefalfdillnkfaa", sum := "cb512b340b9685de12eaa3ec9819f2345ac25575edc18bc82f6978ccaa4af718", func := "calamus/calamuslaw06.LocaBack", spec := "locaBack", unfollowed := true, recurses := true, apart := false }
def LocaBackSaid : Prop := locaBackRow.holds Try.pinned (OpenSpec.ofChange locaBackSpec)

/-- ITS FALSE NEIGHBOUR: 'it returns false'. Refute it at one input. -/
def locaBackWrong : ChangeSpec := { name := "locaBack", fn := fun _ => fun
  | [d1, d2, d3] => { results := [.lit (.bool false)], args := [d1, d2, d3] }
  | _ => none }
def LocaBackWrongFalsely : Prop := locaBackRow.holds Try.pinned (OpenSpec.ofChange locaBackWrong)

/-- 'calamuslaw06.LocaMetrics': WHATEVER THE INPUT: true; the input reads as it did. -/
def locaMetricsSpec : ChangeSpec := { name := "locaMetrics", fn := fun _ => fun
  | [d1, d2, d3] => { results := [.lit (.bool true)], args := [d1, d2, d3] }
  | _ => none }
def locaMetricsRow : OpenClaim := { program := "ytefalfdillnkfaa", sum := "cb512b340b9685de12eaa3ec9819f2345ac25575edc18bc82f6978ccaa4af718", func := "calamus/calamuslaw06.LocaMetrics", spec := "locaMetrics", unfollowed := true, recurses := true, apart := false }
def LocaMetricsSaid : Prop := locaMetricsRow.holds Try.pinned (OpenSpec.ofChange locaMetricsSpec)

/-- ITS FALSE NEIGHBOUR: 'it returns false'. Refute it at one input. -/
def locaMetricsWrong : ChangeSpec := { name := "locaMetrics", fn := fun _ => fun
  | [d1, d2, d3] => { results := [.lit (.bool false)], args := [d1, d2, d3] }
  | _ => none }
def LocaMetricsWrongFalsely : Prop := locaMetricsRow.holds Try.pinned (OpenSpec.ofChange locaMetricsWrong)

/-- 'calamuslaw06.LocaPuts': WHATEVER THE INPUT: true; the input reads as it did. -/
def locaPutsSpec : ChangeSpec := { name := "locaPuts", fn := fun _ => fun
  | [d1, d2] => { results := [.lit (.bool true)], args := [d1, d2] }
  | _ => none }
def locaPutsRow : OpenClaim := { program := "ytefalfdillnkfaa", sum := "cb512b340b9685de12eaa3ec9819f2345ac25575edc18bc82f6978ccaa4af718", func := "calamus/calamuslaw06.LocaPuts", spec := "locaPuts", unfollowed := true, recurses := true, apart := false }
def LocaPutsSaid : Prop := locaPutsRow.holds Try.pinned (OpenSpec.ofChange locaPutsSpec)

/-- ITS FALSE NEIGHBOUR: 'it returns false'. Refute it at one input. -/
def locaPutsWrong : ChangeSpec := { name := "locaPuts", fn := fun _ => fun
  | [d1, d2] => { results := [.lit (.bool false)], args := [d1, d2] }
  | _ => none }
def LocaPutsWrongFalsely : Prop := locaPutsRow.holds Try.pinned (OpenSpec.ofChange locaPutsWrong)

/-- 'calamuslaw06.LocaLong': WHATEVER THE INPUT: true; the input reads as it did. -/
def locaLongSpec : ChangeSpec := { name := "locaLong", fn := fun _ => fun
  | [d] => { results := [.lit (.bool true)], args := [d] }
  | _ => none }
def locaLongRow : OpenClaim := { program := "ytefalfdillnkfaa", sum := "cb512b340b9685de12eaa3ec9819f2345ac25575edc18bc82f6978ccaa4af718", func := "calamus/calamuslaw06.LocaLong", spec := "locaLong", unfollowed := true, recurses := true, apart := false }
def LocaLongSaid : Prop := locaLongRow.holds Try.pinned (OpenSpec.ofChange locaLongSpec)

/-- ITS FALSE NEIGHBOUR: 'it returns false'. Refute it at one input. -/
def locaLongWrong : ChangeSpec := { name := "locaLong", fn := fun _ => fun
  | [d] => { results := [.lit (.bool false)], args := [d] }
  | _ => none }
def LocaLongWrongFalsely : Prop := locaLongRow.holds Try.pinned (OpenSpec.ofChange locaLongWrong)

/- THE SECOND FORM. 'bulk': how many values and letters a reading holds, each counted each time it is reached (what is shared counts as often as it is met; a slice's spare places count too). A statement '..UptoSaid' is the law's where the arguments, and the package variables that the reading takes, are together of bulk at most 1048576: NARROWER than '..Said'. Prove '..Said' where nothing that the law and all that it calls make is longer than what came in: it says more and counts as full. Else prove '..UptoSaid'. A law counts once. -/
mutual
def uptoBulk {H : Type} : DataW H → Nat
  | .lit (.string bytes) => bytes.length + 1
  | .lit _ => 1
  | .nil => 1
  | .ptr d => uptoBulk d + 1
  | .slice elems spare => uptoBulkAll elems + uptoBulkAll spare + 1
  | .agg parts => uptoBulkAll parts + 1
  | .iface _ d => uptoBulk d + 1
  | .map entries => uptoBulkEntries entries + 1
  | .held _ => 1
def uptoBulkAll {H : Type} : List (DataW H) → Nat
  | [] => 0
  | d :: r => uptoBulk d + uptoBulkAll r
def uptoBulkEntries {H : Type} : List (Lit × DataW H) → Nat
  | [] => 0
  | x :: r => uptoBulkEntry x + uptoBulkEntries r
def uptoBulkEntry {H : Type} : Lit × DataW H → Nat
  | (.string bytes, d) => bytes.length + uptoBulk d + 1
  | (_, d) => uptoBulk d + 1
 end
def uptoSmall : (H : Type) → List (DataW H) → Bool := fun _ ds => decide (uptoBulkAll ds ≤ 1048576)
def OpenSpec.upto (s : _root_.Go.ChangeSpec) : _root_.Go.OpenSpec := { _root_.Go.OpenSpec.ofChange s with cond := some uptoSmall }

/-- 'calamuslaw06.LocaReads', WHERE WHAT IT READS IS OF BULK AT MOST 1048576: true; the input reads as it did. -/
def locaReadsUptoRow : OpenClaim := { program := "ytefalfdillnkfaa", sum := "cb512b340b9685de12eaa3ec9819f2345ac25575edc18bc82f6978ccaa4af718", func := "calamus/calamuslaw06.LocaReads", spec := "locaReads", unfollowed := true, recurses := true, apart := false, narrowed := true }
def LocaReadsUptoSaid : Prop := locaReadsUptoRow.holds Try.pinned (OpenSpec.upto locaReadsSpec)

/-- 'calamuslaw06.LocaWrites', WHERE WHAT IT READS IS OF BULK AT MOST 1048576: true; the input reads as it did. -/
def locaWritesUptoRow : OpenClaim := { program := "ytefalfdillnkfaa", sum := "cb512b340b9685de12eaa3ec9819f2345ac25575edc18bc82f6978ccaa4af718", func := "calamus/calamuslaw06.LocaWrites", spec := "locaWrites", unfollowed := true, recurses := true, apart := false, narrowed := true }
def LocaWritesUptoSaid : Prop := locaWritesUptoRow.holds Try.pinned (OpenSpec.upto locaWritesSpec)

/-- 'calamuslaw06.LocaBack', WHERE WHAT IT READS IS OF BULK AT MOST 1048576: true; the input reads as it did. -/
def locaBackUptoRow : OpenClaim := { program := "ytefalfdillnkfaa", sum := "cb512b340b9685de12eaa3ec9819f2345ac25575edc18bc82f6978ccaa4af718", func := "calamus/calamuslaw06.LocaBack", spec := "locaBack", unfollowed := true, recurses := true, apart := false, narrowed := true }
def LocaBackUptoSaid : Prop := locaBackUptoRow.holds Try.pinned (OpenSpec.upto locaBackSpec)

/-- 'calamuslaw06.LocaMetrics', WHERE WHAT IT READS IS OF BULK AT MOST 1048576: true; the input reads as it did. -/
def locaMetricsUptoRow : OpenClaim := { program := "ytefalfdillnkfaa", sum := "cb512b340b9685de12eaa3ec9819f2345ac25575edc18bc82f6978ccaa4af718", func := "calamus/calamuslaw06.LocaMetrics", spec := "locaMetrics", unfollowed := true, recurses := true, apart := false, narrowed := true }
def LocaMetricsUptoSaid : Prop := locaMetricsUptoRow.holds Try.pinned (OpenSpec.upto locaMetricsSpec)

/-- 'calamuslaw06.LocaPuts', WHERE WHAT IT READS IS OF BULK AT MOST 1048576: true; the input reads as it did. -/
def locaPutsUptoRow : OpenClaim := { program := "ytefalfdillnkfaa", sum := "cb512b340b9685de12eaa3ec9819f2345ac25575edc18bc82f6978ccaa4af718", func := "calamus/calamuslaw06.LocaPuts", spec := "locaPuts", unfollowed := true, recurses := true, apart := false, narrowed := true }
def LocaPutsUptoSaid : Prop := locaPutsUptoRow.holds Try.pinned (OpenSpec.upto locaPutsSpec)

/-- 'calamuslaw06.LocaLong', WHERE WHAT IT READS IS OF BULK AT MOST 1048576: true; the input reads as it did. -/
def locaLongUptoRow : OpenClaim := { program := "ytefalfdillnkfaa", sum := "cb512b340b9685de12eaa3ec9819f2345ac25575edc18bc82f6978ccaa4af718", func := "calamus/calamuslaw06.LocaLong", spec := "locaLong", unfollowed := true, recurses := true, apart := false, narrowed := true }
def LocaLongUptoSaid : Prop := locaLongUptoRow.holds Try.pinned (OpenSpec.upto locaLongSpec)

end Rows
end Go.Proofs.Ytefalfdillnkfaa
