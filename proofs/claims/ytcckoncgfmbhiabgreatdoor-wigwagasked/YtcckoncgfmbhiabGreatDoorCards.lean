/-
  DERIVED. GIVEN WITH THE SEED: THE CARDS: each row of YtcckoncgfmbhiabGreatDoorRows.lean that lists a variable, with what it lists TIED to the program's text (the seventh form; the later family's looks); each row that meets fmt, with fmt's text TOLD by the authors' own Lean function (tested against real Go, not proved from fmt's source: count such statements apart). THE CARD IS WHAT COUNTS. Prove the row's statement (the work); the ties are given (YtcckoncgfmbhiabGreatDoorTie.lean); close each card by the builder's one call (the guide's Derived/Test/ToyasCard.lean, 'card_holds'). Laid BY PROGRAM, IN A SANDBOX (cutbox-door.mjs). By AI agents, Wed Nov 11 2026. No macro, syntax, notation, axiom, sorry.
-/
import Derived.Test.YtcckoncgfmbhiabGreatDoorRows
import GoSem.ClaimSeven
namespace Go.Proofs.YtcckoncgfmbhiabGreatDoor
namespace Rows

/-- THE TIED CARD OF 'wigwagtop.WigwagAsked'. -/
def wigwagAskedCard : Claim7 := { stood := { row := wigwagAskedRow, standIns := [], harness := (true, "ca93e74f122e4c799068408916acc5ba88b9dfc2505def4c16b20ebfb0b3a6cc"), looks := true }, kinds := [], alts := [], laidByText := true, laidKinds := [.data, .data, .data, .sentinel, .sentinel], laidTests := true, laidLooks := .later }
def WigwagAskedCardSaid : Prop := Claim7.holds Tryz.pinned (.plain (OpenSpec.ofChange wigwagAskedSpec)) wigwagAskedCard

/-- THE SECOND FORM's CARD OF 'wigwagtop.WigwagAsked'. -/
def wigwagAskedUptoCard : Claim7 := { stood := { row := wigwagAskedUptoRow, standIns := [], harness := (true, "ca93e74f122e4c799068408916acc5ba88b9dfc2505def4c16b20ebfb0b3a6cc"), looks := true }, kinds := [], alts := [], laidByText := true, laidKinds := [.data, .data, .data, .sentinel, .sentinel], laidTests := true, laidLooks := .later }
def WigwagAskedUptoCardSaid : Prop := Claim7.holds Tryz.pinned (.plain (OpenSpec.upto wigwagAskedSpec)) wigwagAskedUptoCard
end Rows
end Go.Proofs.YtcckoncgfmbhiabGreatDoor
