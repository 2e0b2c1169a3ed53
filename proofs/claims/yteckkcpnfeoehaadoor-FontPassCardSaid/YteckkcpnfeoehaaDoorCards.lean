/-
  DERIVED. GIVEN WITH THE SEED: THE CARDS: each row of YteckkcpnfeoehaaDoorRows.lean that lists a variable, with what it lists TIED to the program's text (the seventh form; the later family's looks); each row that meets fmt, with fmt's text TOLD by the authors' own Lean function (tested against real Go, not proved from fmt's source: count such statements apart). THE CARD IS WHAT COUNTS. Prove the row's statement (the work); the ties are given (YteckkcpnfeoehaaDoorTie.lean); close each card by the builder's one call (the guide's Derived/Test/ToyasCard.lean, 'card_holds'). Laid BY PROGRAM, IN A SANDBOX (cutbox-door.mjs). By AI agents, Wed Nov 11 2026. No macro, syntax, notation, axiom, sorry.
-/
import Derived.Test.YteckkcpnfeoehaaDoorRows
import GoSem.ClaimSeven
namespace Go.Proofs.YteckkcpnfeoehaaDoor
namespace Rows

/-- THE TIED CARD OF 'calamuslaw09.FontBack'. -/
def fontBackCard : Claim7 := { stood := { row := fontBackRow, standIns := [], harness := (true, "86843eafe61f9f37eea736027c61ca2f92b44d3ed0d4219649f7b70f0663ca6c"), looks := false }, kinds := [], alts := [], laidByText := true, laidKinds := [.data, .data], laidTests := true, laidLooks := .later }
def FontBackCardSaid : Prop := Claim7.holds Tryd.pinned (.plain (OpenSpec.ofChange fontBackSpec)) fontBackCard

/-- THE TIED CARD OF 'calamuslaw09.FontAgain'. -/
def fontAgainCard : Claim7 := { stood := { row := fontAgainRow, standIns := [], harness := (true, "86843eafe61f9f37eea736027c61ca2f92b44d3ed0d4219649f7b70f0663ca6c"), looks := false }, kinds := [], alts := [], laidByText := true, laidKinds := [.data, .data], laidTests := true, laidLooks := .later }
def FontAgainCardSaid : Prop := Claim7.holds Tryd.pinned (.plain (OpenSpec.ofChange fontAgainSpec)) fontAgainCard

/-- THE TIED CARD OF 'calamuslaw09.FontPass'. -/
def fontPassCard : Claim7 := { stood := { row := fontPassRow, standIns := [], harness := (true, "86843eafe61f9f37eea736027c61ca2f92b44d3ed0d4219649f7b70f0663ca6c"), looks := false }, kinds := [], alts := [], laidByText := true, laidKinds := [.data, .data], laidTests := true, laidLooks := .later }
def FontPassCardSaid : Prop := Claim7.holds Tryd.pinned (.plain (OpenSpec.ofChange fontPassSpec)) fontPassCard

/-- THE TIED CARD OF 'calamuslaw09.FontKinds'. -/
def fontKindsCard : Claim7 := { stood := { row := fontKindsRow, standIns := [], harness := (true, "86843eafe61f9f37eea736027c61ca2f92b44d3ed0d4219649f7b70f0663ca6c"), looks := false }, kinds := [], alts := [], laidByText := true, laidKinds := [.data, .data], laidTests := true, laidLooks := .later }
def FontKindsCardSaid : Prop := Claim7.holds Tryd.pinned (.plain (OpenSpec.ofChange fontKindsSpec)) fontKindsCard

/-- THE SECOND FORM's CARD OF 'calamuslaw09.FontBack'. -/
def fontBackUptoCard : Claim7 := { stood := { row := fontBackUptoRow, standIns := [], harness := (true, "86843eafe61f9f37eea736027c61ca2f92b44d3ed0d4219649f7b70f0663ca6c"), looks := false }, kinds := [], alts := [], laidByText := true, laidKinds := [.data, .data], laidTests := true, laidLooks := .later }
def FontBackUptoCardSaid : Prop := Claim7.holds Tryd.pinned (.plain (OpenSpec.upto fontBackSpec)) fontBackUptoCard

/-- THE SECOND FORM's CARD OF 'calamuslaw09.FontAgain'. -/
def fontAgainUptoCard : Claim7 := { stood := { row := fontAgainUptoRow, standIns := [], harness := (true, "86843eafe61f9f37eea736027c61ca2f92b44d3ed0d4219649f7b70f0663ca6c"), looks := false }, kinds := [], alts := [], laidByText := true, laidKinds := [.data, .data], laidTests := true, laidLooks := .later }
def FontAgainUptoCardSaid : Prop := Claim7.holds Tryd.pinned (.plain (OpenSpec.upto fontAgainSpec)) fontAgainUptoCard

/-- THE SECOND FORM's CARD OF 'calamuslaw09.FontPass'. -/
def fontPassUptoCard : Claim7 := { stood := { row := fontPassUptoRow, standIns := [], harness := (true, "86843eafe61f9f37eea736027c61ca2f92b44d3ed0d4219649f7b70f0663ca6c"), looks := false }, kinds := [], alts := [], laidByText := true, laidKinds := [.data, .data], laidTests := true, laidLooks := .later }
def FontPassUptoCardSaid : Prop := Claim7.holds Tryd.pinned (.plain (OpenSpec.upto fontPassSpec)) fontPassUptoCard

/-- THE SECOND FORM's CARD OF 'calamuslaw09.FontKinds'. -/
def fontKindsUptoCard : Claim7 := { stood := { row := fontKindsUptoRow, standIns := [], harness := (true, "86843eafe61f9f37eea736027c61ca2f92b44d3ed0d4219649f7b70f0663ca6c"), looks := false }, kinds := [], alts := [], laidByText := true, laidKinds := [.data, .data], laidTests := true, laidLooks := .later }
def FontKindsUptoCardSaid : Prop := Claim7.holds Tryd.pinned (.plain (OpenSpec.upto fontKindsSpec)) fontKindsUptoCard
end Rows
end Go.Proofs.YteckkcpnfeoehaaDoor
