/-
  DERIVED. GIVEN WITH THE SEED: THE CARDS: each row of YteckkcpnfeoehaaGreatDoorRows.lean that lists a variable, with what it lists TIED to the program's text (the seventh form; the later family's looks); each row that meets fmt, with fmt's text TOLD by the authors' own Lean function (tested against real Go, not proved from fmt's source: count such statements apart). THE CARD IS WHAT COUNTS. Prove the row's statement (the work); the ties are given (YteckkcpnfeoehaaGreatDoorTie.lean); close each card by the builder's one call (the guide's Derived/Test/ToyasCard.lean, 'card_holds'). Laid BY PROGRAM, IN A SANDBOX (cutbox-door.mjs). By AI agents, Wed Nov 11 2026. No macro, syntax, notation, axiom, sorry.
-/
import Derived.Test.YteckkcpnfeoehaaGreatDoorRows
import GoSem.ClaimSeven
namespace Go.Proofs.YteckkcpnfeoehaaGreatDoor
namespace Rows

/-- THE TIED CARD OF 'calamuslaw09.FontWrites'. -/
def fontWritesCard : Claim7 := { stood := { row := fontWritesRow, standIns := [], harness := (true, "abbdd2e3811b586fa627a4f33e8a2979b427e767bbc9a5dd14517c2cbf1694ae"), looks := false }, kinds := [], alts := [], laidByText := true, laidKinds := [.data, .data], laidTests := true, laidLooks := .later }
def FontWritesCardSaid : Prop := Claim7.holds Tryz.pinned (.plain (OpenSpec.ofChange fontWritesSpec)) fontWritesCard

/-- THE TIED CARD OF 'calamuslaw09.FontSyncs'. -/
def fontSyncsCard : Claim7 := { stood := { row := fontSyncsRow, standIns := [], harness := (true, "abbdd2e3811b586fa627a4f33e8a2979b427e767bbc9a5dd14517c2cbf1694ae"), looks := false }, kinds := [], alts := [], laidByText := true, laidKinds := [.data, .data], laidTests := true, laidLooks := .later }
def FontSyncsCardSaid : Prop := Claim7.holds Tryz.pinned (.plain (OpenSpec.ofChange fontSyncsSpec)) fontSyncsCard

/-- THE SECOND FORM's CARD OF 'calamuslaw09.FontWrites'. -/
def fontWritesUptoCard : Claim7 := { stood := { row := fontWritesUptoRow, standIns := [], harness := (true, "abbdd2e3811b586fa627a4f33e8a2979b427e767bbc9a5dd14517c2cbf1694ae"), looks := false }, kinds := [], alts := [], laidByText := true, laidKinds := [.data, .data], laidTests := true, laidLooks := .later }
def FontWritesUptoCardSaid : Prop := Claim7.holds Tryz.pinned (.plain (OpenSpec.upto fontWritesSpec)) fontWritesUptoCard

/-- THE SECOND FORM's CARD OF 'calamuslaw09.FontSyncs'. -/
def fontSyncsUptoCard : Claim7 := { stood := { row := fontSyncsUptoRow, standIns := [], harness := (true, "abbdd2e3811b586fa627a4f33e8a2979b427e767bbc9a5dd14517c2cbf1694ae"), looks := false }, kinds := [], alts := [], laidByText := true, laidKinds := [.data, .data], laidTests := true, laidLooks := .later }
def FontSyncsUptoCardSaid : Prop := Claim7.holds Tryz.pinned (.plain (OpenSpec.upto fontSyncsSpec)) fontSyncsUptoCard
end Rows
end Go.Proofs.YteckkcpnfeoehaaGreatDoor
