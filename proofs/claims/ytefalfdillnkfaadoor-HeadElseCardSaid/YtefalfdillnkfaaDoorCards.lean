/-
  DERIVED. GIVEN WITH THE SEED: THE CARDS: each row of YtefalfdillnkfaaDoorRows.lean that lists a variable, with what it lists TIED to the program's text (the seventh form; the later family's looks); each row that meets fmt, with fmt's text TOLD by the authors' own Lean function (tested against real Go, not proved from fmt's source: count such statements apart). THE CARD IS WHAT COUNTS. Prove the row's statement (the work); the ties are given (YtefalfdillnkfaaDoorTie.lean); close each card by the builder's one call (the guide's Derived/Test/ToyasCard.lean, 'card_holds'). Laid BY PROGRAM, IN A SANDBOX (cutbox-door.mjs). By AI agents, Wed Nov 11 2026. No macro, syntax, notation, axiom, sorry.
-/
import Derived.Test.YtefalfdillnkfaaDoorRows
import GoSem.ClaimSeven
namespace Go.Proofs.YtefalfdillnkfaaDoor
namespace Rows

/-- THE TIED CARD OF 'calamuslaw05.HeadReads'. -/
def headReadsCard : Claim7 := { stood := { row := headReadsRow, standIns := [], harness := (true, "8f2678c4d7f4d54ff4388dd35514311790180101357346cbdf631a800b6f5e75"), looks := false }, kinds := [], alts := [], laidByText := true, laidKinds := [.data, .data], laidTests := true, laidLooks := .later }
def HeadReadsCardSaid : Prop := Claim7.holds Tryd.pinned (.plain (OpenSpec.ofChange headReadsSpec)) headReadsCard

/-- THE TIED CARD OF 'calamuslaw05.HeadPuts'. -/
def headPutsCard : Claim7 := { stood := { row := headPutsRow, standIns := [], harness := (true, "8f2678c4d7f4d54ff4388dd35514311790180101357346cbdf631a800b6f5e75"), looks := false }, kinds := [], alts := [], laidByText := true, laidKinds := [.data], laidTests := true, laidLooks := .later }
def HeadPutsCardSaid : Prop := Claim7.holds Tryd.pinned (.plain (OpenSpec.ofChange headPutsSpec)) headPutsCard

/-- THE TIED CARD OF 'calamuslaw05.HeadMaxps'. -/
def headMaxpsCard : Claim7 := { stood := { row := headMaxpsRow, standIns := [], harness := (true, "8f2678c4d7f4d54ff4388dd35514311790180101357346cbdf631a800b6f5e75"), looks := false }, kinds := [], alts := [], laidByText := true, laidKinds := [.data, .data], laidTests := true, laidLooks := .later }
def HeadMaxpsCardSaid : Prop := Claim7.holds Tryd.pinned (.plain (OpenSpec.ofChange headMaxpsSpec)) headMaxpsCard

/-- THE TIED CARD OF 'calamuslaw05.HeadBack'. -/
def headBackCard : Claim7 := { stood := { row := headBackRow, standIns := [], harness := (true, "8f2678c4d7f4d54ff4388dd35514311790180101357346cbdf631a800b6f5e75"), looks := false }, kinds := [], alts := [], laidByText := true, laidKinds := [.data, .data], laidTests := true, laidLooks := .later }
def HeadBackCardSaid : Prop := Claim7.holds Tryd.pinned (.plain (OpenSpec.ofChange headBackSpec)) headBackCard

/-- THE TIED CARD OF 'calamuslaw05.HeadElse'. -/
def headElseCard : Claim7 := { stood := { row := headElseRow, standIns := [], harness := (true, "8f2678c4d7f4d54ff4388dd35514311790180101357346cbdf631a800b6f5e75"), looks := false }, kinds := [], alts := [], laidByText := true, laidKinds := [.data, .data], laidTests := true, laidLooks := .later }
def HeadElseCardSaid : Prop := Claim7.holds Tryd.pinned (.plain (OpenSpec.ofChange headElseSpec)) headElseCard

/-- THE SECOND FORM's CARD OF 'calamuslaw05.HeadReads'. -/
def headReadsUptoCard : Claim7 := { stood := { row := headReadsUptoRow, standIns := [], harness := (true, "8f2678c4d7f4d54ff4388dd35514311790180101357346cbdf631a800b6f5e75"), looks := false }, kinds := [], alts := [], laidByText := true, laidKinds := [.data, .data], laidTests := true, laidLooks := .later }
def HeadReadsUptoCardSaid : Prop := Claim7.holds Tryd.pinned (.plain (OpenSpec.upto headReadsSpec)) headReadsUptoCard

/-- THE SECOND FORM's CARD OF 'calamuslaw05.HeadPuts'. -/
def headPutsUptoCard : Claim7 := { stood := { row := headPutsUptoRow, standIns := [], harness := (true, "8f2678c4d7f4d54ff4388dd35514311790180101357346cbdf631a800b6f5e75"), looks := false }, kinds := [], alts := [], laidByText := true, laidKinds := [.data], laidTests := true, laidLooks := .later }
def HeadPutsUptoCardSaid : Prop := Claim7.holds Tryd.pinned (.plain (OpenSpec.upto headPutsSpec)) headPutsUptoCard

/-- THE SECOND FORM's CARD OF 'calamuslaw05.HeadMaxps'. -/
def headMaxpsUptoCard : Claim7 := { stood := { row := headMaxpsUptoRow, standIns := [], harness := (true, "8f2678c4d7f4d54ff4388dd35514311790180101357346cbdf631a800b6f5e75"), looks := false }, kinds := [], alts := [], laidByText := true, laidKinds := [.data, .data], laidTests := true, laidLooks := .later }
def HeadMaxpsUptoCardSaid : Prop := Claim7.holds Tryd.pinned (.plain (OpenSpec.upto headMaxpsSpec)) headMaxpsUptoCard

/-- THE SECOND FORM's CARD OF 'calamuslaw05.HeadBack'. -/
def headBackUptoCard : Claim7 := { stood := { row := headBackUptoRow, standIns := [], harness := (true, "8f2678c4d7f4d54ff4388dd35514311790180101357346cbdf631a800b6f5e75"), looks := false }, kinds := [], alts := [], laidByText := true, laidKinds := [.data, .data], laidTests := true, laidLooks := .later }
def HeadBackUptoCardSaid : Prop := Claim7.holds Tryd.pinned (.plain (OpenSpec.upto headBackSpec)) headBackUptoCard

/-- THE SECOND FORM's CARD OF 'calamuslaw05.HeadElse'. -/
def headElseUptoCard : Claim7 := { stood := { row := headElseUptoRow, standIns := [], harness := (true, "8f2678c4d7f4d54ff4388dd35514311790180101357346cbdf631a800b6f5e75"), looks := false }, kinds := [], alts := [], laidByText := true, laidKinds := [.data, .data], laidTests := true, laidLooks := .later }
def HeadElseUptoCardSaid : Prop := Claim7.holds Tryd.pinned (.plain (OpenSpec.upto headElseSpec)) headElseUptoCard
end Rows
end Go.Proofs.YtefalfdillnkfaaDoor
