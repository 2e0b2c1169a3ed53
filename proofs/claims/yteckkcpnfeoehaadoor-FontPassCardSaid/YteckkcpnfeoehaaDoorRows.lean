/-
  NARROWER THAN 'FOR EVERY INPUT', by the rows' own cells (each row's printed sentence says how): FontBack: laid · FontAgain: laid · FontPass: laid · FontKinds: laid.
  DERIVED. THE GIVEN ROWS OF THIS SEAT. 4 by the template 'for every input the law returns true; each argument reads behind the call as it read before'; 0 by the template 'total and deterministic' (their statements: YteckkcpnfeoehaaDoorTotals.lean).
  GIVEN WITH THE SEED: the statements are not yours to turn. If you find one false, say at which input.
  Laid BY PROGRAM, IN A SANDBOX (cutbox-rows.mjs): the forced cells as the released guide's own fill.sh prints them over the translation 1e32348f6a5820b5… (all of the seat's roots in one cut). By AI agents, Wed Nov 11 2026. No macro, syntax, notation, axiom, sorry.
-/
import Derived.Test.YteckkcpnfeoehaaDoorChecked
import GoSem.Claim
import GoSem.ClaimJoined
import GoSem.ClaimMapViews
import Derived.JoinedTies
import Derived.KernelRfl
namespace Go.Proofs.YteckkcpnfeoehaaDoor
/- THE CELL 'sum', in the pinned program and in every row, IS THE sha256 OF THE DUMP (.gsa) THAT YteckkcpnfeoehaaDoorProg.lean LOADS. Nothing in Lean hashes anything: it is a label: what it is worth is what the hold of that sum in a sandbox is worth. -/
noncomputable def Tryd.pinned : Pinned := { name := "yteckkcpnfeoehaadoor", sum := "1e32348f6a5820b5064f7cf8b0eda404de0713dedc371256bbcff13fc894b4d7", checked := Tryd.checked }
namespace Rows
def none {H : Type} : Left H := { results := [], args := [] }

/- WHAT THE LISTED PACKAGE-LEVEL VARIABLES READ AS WHEN THE CALL BEGINS. Each datum BY PROGRAM (the guide's laid-datum.mjs) off the statement by which the dump's own 'gosem.cut.vars' lays the variable. In a bare row this is a premise. The card (YteckkcpnfeoehaaDoorCards.lean) ties it to the program's text. -/
def laid_calamus_head_boxAt {H : Type} : DataW H := .agg [.lit (.int .i64 36), .lit (.int .i64 38), .lit (.int .i64 40), .lit (.int .i64 42)]
def laid_calamus_head_maxpAt {H : Type} : DataW H := .agg [.lit (.int .i64 4), .lit (.int .i64 6), .lit (.int .i64 8), .lit (.int .i64 10), .lit (.int .i64 12), .lit (.int .i64 28), .lit (.int .i64 30)]

/-- 'calamuslaw09.FontBack': WHATEVER THE INPUT: true; the input reads as it did. -/
def fontBackSpec : ChangeSpec := { name := "fontBack", fn := fun _ => fun
  | [d] => { results := [.lit (.bool true)], args := [d] }
  | _ => none }
def fontBackRow : OpenClaim := { program := "yteckkcpnfeoehaadoor", sum := "1e32348f6a5820b5064f7cf8b0eda404de0713dedc371256bbcff13fc894b4d7", func := "calamus/calamuslaw09.FontBack", spec := "fontBack", inPlace := ["slices.overlaps[calamus/api.Table]", "internal/bytealg.MakeNoZero"], unfollowed := true, recurses := true, named := ["calamus/head.boxAt", "calamus/head.maxpAt"], apart := false, laid := [("calamus/head.boxAt", laid_calamus_head_boxAt), ("calamus/head.maxpAt", laid_calamus_head_maxpAt)] }
def FontBackSaid : Prop := fontBackRow.holds Tryd.pinned (OpenSpec.ofChange fontBackSpec)

/-- ITS FALSE NEIGHBOUR: 'it returns false'. Refute it at one input. -/
def fontBackWrong : ChangeSpec := { name := "fontBack", fn := fun _ => fun
  | [d] => { results := [.lit (.bool false)], args := [d] }
  | _ => none }
def FontBackWrongFalsely : Prop := fontBackRow.holds Tryd.pinned (OpenSpec.ofChange fontBackWrong)

/-- 'calamuslaw09.FontAgain': WHATEVER THE INPUT: true; the input reads as it did. -/
def fontAgainSpec : ChangeSpec := { name := "fontAgain", fn := fun _ => fun
  | [d] => { results := [.lit (.bool true)], args := [d] }
  | _ => none }
def fontAgainRow : OpenClaim := { program := "yteckkcpnfeoehaadoor", sum := "1e32348f6a5820b5064f7cf8b0eda404de0713dedc371256bbcff13fc894b4d7", func := "calamus/calamuslaw09.FontAgain", spec := "fontAgain", inPlace := ["slices.overlaps[calamus/api.Table]", "internal/bytealg.MakeNoZero"], unfollowed := true, recurses := true, named := ["calamus/head.boxAt", "calamus/head.maxpAt"], apart := false, laid := [("calamus/head.boxAt", laid_calamus_head_boxAt), ("calamus/head.maxpAt", laid_calamus_head_maxpAt)] }
def FontAgainSaid : Prop := fontAgainRow.holds Tryd.pinned (OpenSpec.ofChange fontAgainSpec)

/-- ITS FALSE NEIGHBOUR: 'it returns false'. Refute it at one input. -/
def fontAgainWrong : ChangeSpec := { name := "fontAgain", fn := fun _ => fun
  | [d] => { results := [.lit (.bool false)], args := [d] }
  | _ => none }
def FontAgainWrongFalsely : Prop := fontAgainRow.holds Tryd.pinned (OpenSpec.ofChange fontAgainWrong)

/-- 'calamuslaw09.FontPass': WHATEVER THE INPUT: true; the input reads as it did. -/
def fontPassSpec : ChangeSpec := { name := "fontPass", fn := fun _ => fun
  | [d] => { results := [.lit (.bool true)], args := [d] }
  | _ => none }
def fontPassRow : OpenClaim := { program := "yteckkcpnfeoehaadoor", sum := "1e32348f6a5820b5064f7cf8b0eda404de0713dedc371256bbcff13fc894b4d7", func := "calamus/calamuslaw09.FontPass", spec := "fontPass", inPlace := ["slices.overlaps[calamus/api.Table]", "internal/bytealg.MakeNoZero"], unfollowed := true, recurses := true, named := ["calamus/head.boxAt", "calamus/head.maxpAt"], apart := false, laid := [("calamus/head.boxAt", laid_calamus_head_boxAt), ("calamus/head.maxpAt", laid_calamus_head_maxpAt)] }
def FontPassSaid : Prop := fontPassRow.holds Tryd.pinned (OpenSpec.ofChange fontPassSpec)

/-- ITS FALSE NEIGHBOUR: 'it returns false'. Refute it at one input. -/
def fontPassWrong : ChangeSpec := { name := "fontPass", fn := fun _ => fun
  | [d] => { results := [.lit (.bool false)], args := [d] }
  | _ => none }
def FontPassWrongFalsely : Prop := fontPassRow.holds Tryd.pinned (OpenSpec.ofChange fontPassWrong)

/-- 'calamuslaw09.FontKinds': WHATEVER THE INPUT: true; the input reads as it did. -/
def fontKindsSpec : ChangeSpec := { name := "fontKinds", fn := fun _ => fun
  | [d] => { results := [.lit (.bool true)], args := [d] }
  | _ => none }
def fontKindsRow : OpenClaim := { program := "yteckkcpnfeoehaadoor", sum := "1e32348f6a5820b5064f7cf8b0eda404de0713dedc371256bbcff13fc894b4d7", func := "calamus/calamuslaw09.FontKinds", spec := "fontKinds", inPlace := ["slices.overlaps[calamus/api.Table]", "internal/bytealg.MakeNoZero"], unfollowed := true, recurses := true, named := ["calamus/head.boxAt", "calamus/head.maxpAt"], apart := false, laid := [("calamus/head.boxAt", laid_calamus_head_boxAt), ("calamus/head.maxpAt", laid_calamus_head_maxpAt)] }
def FontKindsSaid : Prop := fontKindsRow.holds Tryd.pinned (OpenSpec.ofChange fontKindsSpec)

/-- ITS FALSE NEIGHBOUR: 'it returns false'. Refute it at one input. -/
def fontKindsWrong : ChangeSpec := { name := "fontKinds", fn := fun _ => fun
  | [d] => { results := [.lit (.bool false)], args := [d] }
  | _ => none }
def FontKindsWrongFalsely : Prop := fontKindsRow.holds Tryd.pinned (OpenSpec.ofChange fontKindsWrong)

/- THE SECOND FORM. 'bulk': how many values and letters a reading holds, each counted each time it is reached (what is shared counts as often as it is met; a slice's spare places count too). A statement '..UptoSaid' is the law's where the arguments, and the package variables that the reading takes, are together of bulk at most 1048576: NARROWER than '..Said'. Prove '..Said' where nothing that the law and all that it calls make is longer than what came in: it says more and counts as full. Else prove '..UptoSaid'. A law counts once. -/
mutual
def uptoBulk {H : Type} : DataW H → Nat
  | .lit (.string bytes) => bytes.length + 1
  | .lit _ => 1
  | .nil => 1
  | .ptr d => uptoBulk d + 1
  | .slice elems spare => uptoBulkAll elems + uptoBulkAll spare + 1
  | .agg parts => uptoBulkAll parts + 1
  | .iface _ d => uptoBulk d + 1
  | .map entries => uptoBulkEntries entries + 1
  | .held _ => 1
def uptoBulkAll {H : Type} : List (DataW H) → Nat
  | [] => 0
  | d :: r => uptoBulk d + uptoBulkAll r
def uptoBulkEntries {H : Type} : List (Lit × DataW H) → Nat
  | [] => 0
  | x :: r => uptoBulkEntry x + uptoBulkEntries r
def uptoBulkEntry {H : Type} : Lit × DataW H → Nat
  | (.string bytes, d) => bytes.length + uptoBulk d + 1
  | (_, d) => uptoBulk d + 1
 end
def uptoSmall : (H : Type) → List (DataW H) → Bool := fun _ ds => decide (uptoBulkAll ds ≤ 1048576)
def OpenSpec.upto (s : _root_.Go.ChangeSpec) : _root_.Go.OpenSpec := { _root_.Go.OpenSpec.ofChange s with cond := some uptoSmall }

/-- 'calamuslaw09.FontBack', WHERE WHAT IT READS IS OF BULK AT MOST 1048576: true; the input reads as it did. -/
def fontBackUptoRow : OpenClaim := { program := "yteckkcpnfeoehaadoor", sum := "1e32348f6a5820b5064f7cf8b0eda404de0713dedc371256bbcff13fc894b4d7", func := "calamus/calamuslaw09.FontBack", spec := "fontBack", inPlace := ["slices.overlaps[calamus/api.Table]", "internal/bytealg.MakeNoZero"], unfollowed := true, recurses := true, named := ["calamus/head.boxAt", "calamus/head.maxpAt"], apart := false, laid := [("calamus/head.boxAt", laid_calamus_head_boxAt), ("calamus/head.maxpAt", laid_calamus_head_maxpAt)], narrowed := true }
def FontBackUptoSaid : Prop := fontBackUptoRow.holds Tryd.pinned (OpenSpec.upto fontBackSpec)

/-- 'calamuslaw09.FontAgain', WHERE WHAT IT READS IS OF BULK AT MOST 1048576: true; the input reads as it did. -/
def fontAgainUptoRow : OpenClaim := { program := "yteckkcpnfeoehaadoor", sum := "1e32348f6a5820b5064f7cf8b0eda404de0713dedc371256bbcff13fc894b4d7", func := "calamus/calamuslaw09.FontAgain", spec := "fontAgain", inPlace := ["slices.overlaps[calamus/api.Table]", "internal/bytealg.MakeNoZero"], unfollowed := true, recurses := true, named := ["calamus/head.boxAt", "calamus/head.maxpAt"], apart := false, laid := [("calamus/head.boxAt", laid_calamus_head_boxAt), ("calamus/head.maxpAt", laid_calamus_head_maxpAt)], narrowed := true }
def FontAgainUptoSaid : Prop := fontAgainUptoRow.holds Tryd.pinned (OpenSpec.upto fontAgainSpec)

/-- 'calamuslaw09.FontPass', WHERE WHAT IT READS IS OF BULK AT MOST 1048576: true; the input reads as it did. -/
def fontPassUptoRow : OpenClaim := { program := "yteckkcpnfeoehaadoor", sum := "1e32348f6a5820b5064f7cf8b0eda404de0713dedc371256bbcff13fc894b4d7", func := "calamus/calamuslaw09.FontPass", spec := "fontPass", inPlace := ["slices.overlaps[calamus/api.Table]", "internal/bytealg.MakeNoZero"], unfollowed := true, recurses := true, named := ["calamus/head.boxAt", "calamus/head.maxpAt"], apart := false, laid := [("calamus/head.boxAt", laid_calamus_head_boxAt), ("calamus/head.maxpAt", laid_calamus_head_maxpAt)], narrowed := true }
def FontPassUptoSaid : Prop := fontPassUptoRow.holds Tryd.pinned (OpenSpec.upto fontPassSpec)

/-- 'calamuslaw09.FontKinds', WHERE WHAT IT READS IS OF BULK AT MOST 1048576: true; the input reads as it did. -/
def fontKindsUptoRow : OpenClaim := { program := "yteckkcpnfeoehaadoor", sum := "1e32348f6a5820b5064f7cf8b0eda404de0713dedc371256bbcff13fc894b4d7", func := "calamus/calamuslaw09.FontKinds", spec := "fontKinds", inPlace := ["slices.overlaps[calamus/api.Table]", "internal/bytealg.MakeNoZero"], unfollowed := true, recurses := true, named := ["calamus/head.boxAt", "calamus/head.maxpAt"], apart := false, laid := [("calamus/head.boxAt", laid_calamus_head_boxAt), ("calamus/head.maxpAt", laid_calamus_head_maxpAt)], narrowed := true }
def FontKindsUptoSaid : Prop := fontKindsUptoRow.holds Tryd.pinned (OpenSpec.upto fontKindsSpec)

end Rows
end Go.Proofs.YteckkcpnfeoehaaDoor
