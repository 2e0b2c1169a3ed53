/-
  NARROWER THAN 'FOR EVERY INPUT', by the rows' own cells (each row's printed sentence says how): HeadReads: laid · HeadPuts: laid · HeadMaxps: laid · HeadBack: laid · HeadElse: laid.
  DERIVED. THE GIVEN ROWS OF THIS SEAT. 5 by the template 'for every input the law returns true; each argument reads behind the call as it read before'; 0 by the template 'total and deterministic' (their statements: YtefalfdillnkfaaDoorTotals.lean).
  GIVEN WITH THE SEED: the statements are not yours to turn. If you find one false, say at which input.
  Laid BY PROGRAM, IN A SANDBOX (cutbox-rows.mjs): the forced cells as the released guide's own fill.sh prints them over the translation 603652e29e8212bb… (all of the seat's roots in one cut). By AI agents, Wed Nov 11 2026. No macro, syntax, notation, axiom, sorry.
-/
import Derived.Test.YtefalfdillnkfaaDoorChecked
import GoSem.Claim
import GoSem.ClaimJoined
import GoSem.ClaimMapViews
import Derived.JoinedTies
import Derived.KernelRfl
namespace Go.Proofs.YtefalfdillnkfaaDoor
/- THE CELL 'sum', in the pinned program and in every row, IS THE sha256 OF THE DUMP (.gsa) THAT YtefalfdillnkfaaDoorProg.lean LOADS. Nothing in Lean hashes anything: it is a label: what it is worth is what the hold of that sum in a sandbox is worth. -/
noncomputable def Tryd.pinned : Pinned := { name := "ytefalfdillnkfaadoor", sum := "603652e29e8212bbb5a3513fb3a8f43027ddd6b779143dd164398531560b77b7", checked := Tryd.checked }
namespace Rows
def none {H : Type} : Left H := { results := [], args := [] }

/- WHAT THE LISTED PACKAGE-LEVEL VARIABLES READ AS WHEN THE CALL BEGINS. Each datum BY PROGRAM (the guide's laid-datum.mjs) off the statement by which the dump's own 'gosem.cut.vars' lays the variable. In a bare row this is a premise. The card (YtefalfdillnkfaaDoorCards.lean) ties it to the program's text. -/
def laid_calamus_head_boxAt {H : Type} : DataW H := .agg [.lit (.int .i64 36), .lit (.int .i64 38), .lit (.int .i64 40), .lit (.int .i64 42)]
def laid_calamus_head_maxpAt {H : Type} : DataW H := .agg [.lit (.int .i64 4), .lit (.int .i64 6), .lit (.int .i64 8), .lit (.int .i64 10), .lit (.int .i64 12), .lit (.int .i64 28), .lit (.int .i64 30)]

/-- 'calamuslaw05.HeadReads': WHATEVER THE INPUT: true; the input reads as it did. -/
def headReadsSpec : ChangeSpec := { name := "headReads", fn := fun _ => fun
  | [d] => { results := [.lit (.bool true)], args := [d] }
  | _ => none }
def headReadsRow : OpenClaim := { program := "ytefalfdillnkfaadoor", sum := "603652e29e8212bbb5a3513fb3a8f43027ddd6b779143dd164398531560b77b7", func := "calamus/calamuslaw05.HeadReads", spec := "headReads", named := ["calamus/head.boxAt", "calamus/head.maxpAt"], apart := false, laid := [("calamus/head.boxAt", laid_calamus_head_boxAt), ("calamus/head.maxpAt", laid_calamus_head_maxpAt)] }
def HeadReadsSaid : Prop := headReadsRow.holds Tryd.pinned (OpenSpec.ofChange headReadsSpec)

/-- ITS FALSE NEIGHBOUR: 'it returns false'. Refute it at one input. -/
def headReadsWrong : ChangeSpec := { name := "headReads", fn := fun _ => fun
  | [d] => { results := [.lit (.bool false)], args := [d] }
  | _ => none }
def HeadReadsWrongFalsely : Prop := headReadsRow.holds Tryd.pinned (OpenSpec.ofChange headReadsWrong)

/-- 'calamuslaw05.HeadPuts': WHATEVER THE INPUT: true; the input reads as it did. -/
def headPutsSpec : ChangeSpec := { name := "headPuts", fn := fun _ => fun
  | [d1, d2] => { results := [.lit (.bool true)], args := [d1, d2] }
  | _ => none }
def headPutsRow : OpenClaim := { program := "ytefalfdillnkfaadoor", sum := "603652e29e8212bbb5a3513fb3a8f43027ddd6b779143dd164398531560b77b7", func := "calamus/calamuslaw05.HeadPuts", spec := "headPuts", named := ["calamus/head.boxAt"], apart := false, laid := [("calamus/head.boxAt", laid_calamus_head_boxAt)] }
def HeadPutsSaid : Prop := headPutsRow.holds Tryd.pinned (OpenSpec.ofChange headPutsSpec)

/-- ITS FALSE NEIGHBOUR: 'it returns false'. Refute it at one input. -/
def headPutsWrong : ChangeSpec := { name := "headPuts", fn := fun _ => fun
  | [d1, d2] => { results := [.lit (.bool false)], args := [d1, d2] }
  | _ => none }
def HeadPutsWrongFalsely : Prop := headPutsRow.holds Tryd.pinned (OpenSpec.ofChange headPutsWrong)

/-- 'calamuslaw05.HeadMaxps': WHATEVER THE INPUT: true; the input reads as it did. -/
def headMaxpsSpec : ChangeSpec := { name := "headMaxps", fn := fun _ => fun
  | [d1, d2, d3] => { results := [.lit (.bool true)], args := [d1, d2, d3] }
  | _ => none }
def headMaxpsRow : OpenClaim := { program := "ytefalfdillnkfaadoor", sum := "603652e29e8212bbb5a3513fb3a8f43027ddd6b779143dd164398531560b77b7", func := "calamus/calamuslaw05.HeadMaxps", spec := "headMaxps", named := ["calamus/head.boxAt", "calamus/head.maxpAt"], apart := false, laid := [("calamus/head.boxAt", laid_calamus_head_boxAt), ("calamus/head.maxpAt", laid_calamus_head_maxpAt)] }
def HeadMaxpsSaid : Prop := headMaxpsRow.holds Tryd.pinned (OpenSpec.ofChange headMaxpsSpec)

/-- ITS FALSE NEIGHBOUR: 'it returns false'. Refute it at one input. -/
def headMaxpsWrong : ChangeSpec := { name := "headMaxps", fn := fun _ => fun
  | [d1, d2, d3] => { results := [.lit (.bool false)], args := [d1, d2, d3] }
  | _ => none }
def HeadMaxpsWrongFalsely : Prop := headMaxpsRow.holds Tryd.pinned (OpenSpec.ofChange headMaxpsWrong)

/-- 'calamuslaw05.HeadBack': WHATEVER THE INPUT: true; the input reads as it did. -/
def headBackSpec : ChangeSpec := { name := "headBack", fn := fun _ => fun
  | [d1, d2, d3] => { results := [.lit (.bool true)], args := [d1, d2, d3] }
  | _ => none }
def headBackRow : OpenClaim := { program := "ytefalfdillnkfaadoor", sum := "603652e29e8212bbb5a3513fb3a8f43027ddd6b779143dd164398531560b77b7", func := "calamus/calamuslaw05.HeadBack", spec := "headBack", named := ["calamus/head.boxAt", "calamus/head.maxpAt"], apart := false, laid := [("calamus/head.boxAt", laid_calamus_head_boxAt), ("calamus/head.maxpAt", laid_calamus_head_maxpAt)] }
def HeadBackSaid : Prop := headBackRow.holds Tryd.pinned (OpenSpec.ofChange headBackSpec)

/-- ITS FALSE NEIGHBOUR: 'it returns false'. Refute it at one input. -/
def headBackWrong : ChangeSpec := { name := "headBack", fn := fun _ => fun
  | [d1, d2, d3] => { results := [.lit (.bool false)], args := [d1, d2, d3] }
  | _ => none }
def HeadBackWrongFalsely : Prop := headBackRow.holds Tryd.pinned (OpenSpec.ofChange headBackWrong)

/-- 'calamuslaw05.HeadElse': WHATEVER THE INPUT: true; the input reads as it did. -/
def headElseSpec : ChangeSpec := { name := "headElse", fn := fun _ => fun
  | [d1, d2, d3] => { results := [.lit (.bool true)], args := [d1, d2, d3] }
  | _ => none }
def headElseRow : OpenClaim := { program := "ytefalfdillnkfaadoor", sum := "603652e29e8212bbb5a3513fb3a8f43027ddd6b779143dd164398531560b77b7", func := "calamus/calamuslaw05.HeadElse", spec := "headElse", named := ["calamus/head.boxAt", "calamus/head.maxpAt"], apart := false, laid := [("calamus/head.boxAt", laid_calamus_head_boxAt), ("calamus/head.maxpAt", laid_calamus_head_maxpAt)] }
def HeadElseSaid : Prop := headElseRow.holds Tryd.pinned (OpenSpec.ofChange headElseSpec)

/-- ITS FALSE NEIGHBOUR: 'it returns false'. Refute it at one input. -/
def headElseWrong : ChangeSpec := { name := "headElse", fn := fun _ => fun
  | [d1, d2, d3] => { results := [.lit (.bool false)], args := [d1, d2, d3] }
  | _ => none }
def HeadElseWrongFalsely : Prop := headElseRow.holds Tryd.pinned (OpenSpec.ofChange headElseWrong)

/- THE SECOND FORM. 'bulk': how many values and letters a reading holds, each counted each time it is reached (what is shared counts as often as it is met; a slice's spare places count too). A statement '..UptoSaid' is the law's where the arguments, and the package variables that the reading takes, are together of bulk at most 1048576: NARROWER than '..Said'. Prove '..Said' where nothing that the law and all that it calls make is longer than what came in: it says more and counts as full. Else prove '..UptoSaid'. A law counts once. -/
mutual
def uptoBulk {H : Type} : DataW H → Nat
  | .lit (.string bytes) => bytes.length + 1
  | .lit _ => 1
  | .nil => 1
  | .ptr d => uptoBulk d + 1
  | .slice elems spare => uptoBulkAll elems + uptoBulkAll spare + 1
  | .agg parts => uptoBulkAll parts + 1
  | .iface _ d => uptoBulk d + 1
  | .map entries => uptoBulkEntries entries + 1
  | .held _ => 1
def uptoBulkAll {H : Type} : List (DataW H) → Nat
  | [] => 0
  | d :: r => uptoBulk d + uptoBulkAll r
def uptoBulkEntries {H : Type} : List (Lit × DataW H) → Nat
  | [] => 0
  | x :: r => uptoBulkEntry x + uptoBulkEntries r
def uptoBulkEntry {H : Type} : Lit × DataW H → Nat
  | (.string bytes, d) => bytes.length + uptoBulk d + 1
  | (_, d) => uptoBulk d + 1
 end
def uptoSmall : (H : Type) → List (DataW H) → Bool := fun _ ds => decide (uptoBulkAll ds ≤ 1048576)
def OpenSpec.upto (s : _root_.Go.ChangeSpec) : _root_.Go.OpenSpec := { _root_.Go.OpenSpec.ofChange s with cond := some uptoSmall }

/-- 'calamuslaw05.HeadReads', WHERE WHAT IT READS IS OF BULK AT MOST 1048576: true; the input reads as it did. -/
def headReadsUptoRow : OpenClaim := { program := "ytefalfdillnkfaadoor", sum := "603652e29e8212bbb5a3513fb3a8f43027ddd6b779143dd164398531560b77b7", func := "calamus/calamuslaw05.HeadReads", spec := "headReads", named := ["calamus/head.boxAt", "calamus/head.maxpAt"], apart := false, laid := [("calamus/head.boxAt", laid_calamus_head_boxAt), ("calamus/head.maxpAt", laid_calamus_head_maxpAt)], narrowed := true }
def HeadReadsUptoSaid : Prop := headReadsUptoRow.holds Tryd.pinned (OpenSpec.upto headReadsSpec)

/-- 'calamuslaw05.HeadPuts', WHERE WHAT IT READS IS OF BULK AT MOST 1048576: true; the input reads as it did. -/
def headPutsUptoRow : OpenClaim := { program := "ytefalfdillnkfaadoor", sum := "603652e29e8212bbb5a3513fb3a8f43027ddd6b779143dd164398531560b77b7", func := "calamus/calamuslaw05.HeadPuts", spec := "headPuts", named := ["calamus/head.boxAt"], apart := false, laid := [("calamus/head.boxAt", laid_calamus_head_boxAt)], narrowed := true }
def HeadPutsUptoSaid : Prop := headPutsUptoRow.holds Tryd.pinned (OpenSpec.upto headPutsSpec)

/-- 'calamuslaw05.HeadMaxps', WHERE WHAT IT READS IS OF BULK AT MOST 1048576: true; the input reads as it did. -/
def headMaxpsUptoRow : OpenClaim := { program := "ytefalfdillnkfaadoor", sum := "603652e29e8212bbb5a3513fb3a8f43027ddd6b779143dd164398531560b77b7", func := "calamus/calamuslaw05.HeadMaxps", spec := "headMaxps", named := ["calamus/head.boxAt", "calamus/head.maxpAt"], apart := false, laid := [("calamus/head.boxAt", laid_calamus_head_boxAt), ("calamus/head.maxpAt", laid_calamus_head_maxpAt)], narrowed := true }
def HeadMaxpsUptoSaid : Prop := headMaxpsUptoRow.holds Tryd.pinned (OpenSpec.upto headMaxpsSpec)

/-- 'calamuslaw05.HeadBack', WHERE WHAT IT READS IS OF BULK AT MOST 1048576: true; the input reads as it did. -/
def headBackUptoRow : OpenClaim := { program := "ytefalfdillnkfaadoor", sum := "603652e29e8212bbb5a3513fb3a8f43027ddd6b779143dd164398531560b77b7", func := "calamus/calamuslaw05.HeadBack", spec := "headBack", named := ["calamus/head.boxAt", "calamus/head.maxpAt"], apart := false, laid := [("calamus/head.boxAt", laid_calamus_head_boxAt), ("calamus/head.maxpAt", laid_calamus_head_maxpAt)], narrowed := true }
def HeadBackUptoSaid : Prop := headBackUptoRow.holds Tryd.pinned (OpenSpec.upto headBackSpec)

/-- 'calamuslaw05.HeadElse', WHERE WHAT IT READS IS OF BULK AT MOST 1048576: true; the input reads as it did. -/
def headElseUptoRow : OpenClaim := { program := "ytefalfdillnkfaadoor", sum := "603652e29e8212bbb5a3513fb3a8f43027ddd6b779143dd164398531560b77b7", func := "calamus/calamuslaw05.HeadElse", spec := "headElse", named := ["calamus/head.boxAt", "calamus/head.maxpAt"], apart := false, laid := [("calamus/head.boxAt", laid_calamus_head_boxAt), ("calamus/head.maxpAt", laid_calamus_head_maxpAt)], narrowed := true }
def HeadElseUptoSaid : Prop := headElseUptoRow.holds Tryd.pinned (OpenSpec.upto headElseSpec)

end Rows
end Go.Proofs.YtefalfdillnkfaaDoor
