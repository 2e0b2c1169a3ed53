/-
  NARROWER THAN 'FOR EVERY INPUT', by the rows' own cells (each row's printed sentence says how): FontWrites: laid · FontSyncs: laid.
  DERIVED. THE GIVEN ROWS OF THIS SEAT. 2 by the template 'for every input the law returns true; each argument reads behind the call as it read before'; 0 by the template 'total and deterministic' (their statements: YteckkcpnfeoehaaGreatDoorTotals.lean).
  GIVEN WITH THE SEED: the statements are not yours to turn. If you find one false, say at which input.
  Laid BY PROGRAM, IN A SANDBOX (cutbox-rows.mjs): the forced cells as the released guide's own fill.sh prints them over the translation 29542480bdfc313a… (all of the seat's roots in one cut). By AI agents, Wed Nov 11 2026. No macro, syntax, notation, axiom, sorry.
-/
import Derived.Test.YteckkcpnfeoehaaGreatDoorChecked
import GoSem.Claim
import GoSem.ClaimJoined
import GoSem.ClaimMapViews
import Derived.JoinedTies
import Derived.KernelRfl
namespace Go.Proofs.YteckkcpnfeoehaaGreatDoor
/- THE CELL 'sum', in the pinned program and in every row, IS THE sha256 OF THE DUMP (.gsa) THAT YteckkcpnfeoehaaGreatDoorProg.lean LOADS. Nothing in Lean hashes anything: it is a label: what it is worth is what the hold of that sum in a sandbox is worth. -/
noncomputable def Tryz.pinned : Pinned := { name := "yteckkcpnfeoehaagreatdoor", sum := "29542480bdfc313a24ec2ea74e6cf7301b56c53764c995107cf96df752b97193", checked := Tryz.checked }
namespace Rows
def none {H : Type} : Left H := { results := [], args := [] }

/- WHAT THE LISTED PACKAGE-LEVEL VARIABLES READ AS WHEN THE CALL BEGINS. Each datum BY PROGRAM (the guide's laid-datum.mjs) off the statement by which the dump's own 'gosem.cut.vars' lays the variable. In a bare row this is a premise. The card (YteckkcpnfeoehaaGreatDoorCards.lean) ties it to the program's text. -/
def laid_calamus_head_boxAt {H : Type} : DataW H := .agg [.lit (.int .i64 36), .lit (.int .i64 38), .lit (.int .i64 40), .lit (.int .i64 42)]
def laid_calamus_head_maxpAt {H : Type} : DataW H := .agg [.lit (.int .i64 4), .lit (.int .i64 6), .lit (.int .i64 8), .lit (.int .i64 10), .lit (.int .i64 12), .lit (.int .i64 28), .lit (.int .i64 30)]

/-- 'calamuslaw09.FontWrites': WHATEVER THE INPUT: true; the input reads as it did. -/
def fontWritesSpec : ChangeSpec := { name := "fontWrites", fn := fun _ => fun
  | [d] => { results := [.lit (.bool true)], args := [d] }
  | _ => none }
def fontWritesRow : OpenClaim := { program := "yteckkcpnfeoehaagreatdoor", sum := "29542480bdfc313a24ec2ea74e6cf7301b56c53764c995107cf96df752b97193", func := "calamus/calamuslaw09.FontWrites", spec := "fontWrites", inPlace := ["slices.overlaps[calamus/api.Table]", "internal/bytealg.MakeNoZero"], unfollowed := true, recurses := true, named := ["calamus/head.boxAt", "calamus/head.maxpAt"], apart := false, laid := [("calamus/head.boxAt", laid_calamus_head_boxAt), ("calamus/head.maxpAt", laid_calamus_head_maxpAt)] }
def FontWritesSaid : Prop := fontWritesRow.holds Tryz.pinned (OpenSpec.ofChange fontWritesSpec)

/-- ITS FALSE NEIGHBOUR: 'it returns false'. Refute it at one input. -/
def fontWritesWrong : ChangeSpec := { name := "fontWrites", fn := fun _ => fun
  | [d] => { results := [.lit (.bool false)], args := [d] }
  | _ => none }
def FontWritesWrongFalsely : Prop := fontWritesRow.holds Tryz.pinned (OpenSpec.ofChange fontWritesWrong)

/-- 'calamuslaw09.FontSyncs': WHATEVER THE INPUT: true; the input reads as it did. -/
def fontSyncsSpec : ChangeSpec := { name := "fontSyncs", fn := fun _ => fun
  | [d] => { results := [.lit (.bool true)], args := [d] }
  | _ => none }
def fontSyncsRow : OpenClaim := { program := "yteckkcpnfeoehaagreatdoor", sum := "29542480bdfc313a24ec2ea74e6cf7301b56c53764c995107cf96df752b97193", func := "calamus/calamuslaw09.FontSyncs", spec := "fontSyncs", inPlace := ["slices.overlaps[calamus/api.Table]", "internal/bytealg.MakeNoZero"], unfollowed := true, recurses := true, named := ["calamus/head.boxAt", "calamus/head.maxpAt"], apart := false, laid := [("calamus/head.boxAt", laid_calamus_head_boxAt), ("calamus/head.maxpAt", laid_calamus_head_maxpAt)] }
def FontSyncsSaid : Prop := fontSyncsRow.holds Tryz.pinned (OpenSpec.ofChange fontSyncsSpec)

/-- ITS FALSE NEIGHBOUR: 'it returns false'. Refute it at one input. -/
def fontSyncsWrong : ChangeSpec := { name := "fontSyncs", fn := fun _ => fun
  | [d] => { results := [.lit (.bool false)], args := [d] }
  | _ => none }
def FontSyncsWrongFalsely : Prop := fontSyncsRow.holds Tryz.pinned (OpenSpec.ofChange fontSyncsWrong)

/- THE SECOND FORM. 'bulk': how many values and letters a reading holds, each counted each time it is reached (what is shared counts as often as it is met; a slice's spare places count too). A statement '..UptoSaid' is the law's where the arguments, and the package variables that the reading takes, are together of bulk at most 1048576: NARROWER than '..Said'. Prove '..Said' where nothing that the law and all that it calls make is longer than what came in: it says more and counts as full. Else prove '..UptoSaid'. A law counts once. -/
mutual
def uptoBulk {H : Type} : DataW H → Nat
  | .lit (.string bytes) => bytes.length + 1
  | .lit _ => 1
  | .nil => 1
  | .ptr d => uptoBulk d + 1
  | .slice elems spare => uptoBulkAll elems + uptoBulkAll spare + 1
  | .agg parts => uptoBulkAll parts + 1
  | .iface _ d => uptoBulk d + 1
  | .map entries => uptoBulkEntries entries + 1
  | .held _ => 1
def uptoBulkAll {H : Type} : List (DataW H) → Nat
  | [] => 0
  | d :: r => uptoBulk d + uptoBulkAll r
def uptoBulkEntries {H : Type} : List (Lit × DataW H) → Nat
  | [] => 0
  | x :: r => uptoBulkEntry x + uptoBulkEntries r
def uptoBulkEntry {H : Type} : Lit × DataW H → Nat
  | (.string bytes, d) => bytes.length + uptoBulk d + 1
  | (_, d) => uptoBulk d + 1
 end
def uptoSmall : (H : Type) → List (DataW H) → Bool := fun _ ds => decide (uptoBulkAll ds ≤ 1048576)
def OpenSpec.upto (s : _root_.Go.ChangeSpec) : _root_.Go.OpenSpec := { _root_.Go.OpenSpec.ofChange s with cond := some uptoSmall }

/-- 'calamuslaw09.FontWrites', WHERE WHAT IT READS IS OF BULK AT MOST 1048576: true; the input reads as it did. -/
def fontWritesUptoRow : OpenClaim := { program := "yteckkcpnfeoehaagreatdoor", sum := "29542480bdfc313a24ec2ea74e6cf7301b56c53764c995107cf96df752b97193", func := "calamus/calamuslaw09.FontWrites", spec := "fontWrites", inPlace := ["slices.overlaps[calamus/api.Table]", "internal/bytealg.MakeNoZero"], unfollowed := true, recurses := true, named := ["calamus/head.boxAt", "calamus/head.maxpAt"], apart := false, laid := [("calamus/head.boxAt", laid_calamus_head_boxAt), ("calamus/head.maxpAt", laid_calamus_head_maxpAt)], narrowed := true }
def FontWritesUptoSaid : Prop := fontWritesUptoRow.holds Tryz.pinned (OpenSpec.upto fontWritesSpec)

/-- 'calamuslaw09.FontSyncs', WHERE WHAT IT READS IS OF BULK AT MOST 1048576: true; the input reads as it did. -/
def fontSyncsUptoRow : OpenClaim := { program := "yteckkcpnfeoehaagreatdoor", sum := "29542480bdfc313a24ec2ea74e6cf7301b56c53764c995107cf96df752b97193", func := "calamus/calamuslaw09.FontSyncs", spec := "fontSyncs", inPlace := ["slices.overlaps[calamus/api.Table]", "internal/bytealg.MakeNoZero"], unfollowed := true, recurses := true, named := ["calamus/head.boxAt", "calamus/head.maxpAt"], apart := false, laid := [("calamus/head.boxAt", laid_calamus_head_boxAt), ("calamus/head.maxpAt", laid_calamus_head_maxpAt)], narrowed := true }
def FontSyncsUptoSaid : Prop := fontSyncsUptoRow.holds Tryz.pinned (OpenSpec.upto fontSyncsSpec)

end Rows
end Go.Proofs.YteckkcpnfeoehaaGreatDoor
