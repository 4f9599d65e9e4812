/-
  DERIVED. GIVEN WITH THE SEED: THE CARDS: each row of YtcckoncgfmbhiabDoorRows.lean that lists a variable, with what it lists TIED to the program's text (the seventh form; the later family's looks); each row that meets fmt, with fmt's text TOLD by the authors' own Lean function (tested against real Go, not proved from fmt's source: count such statements apart). THE CARD IS WHAT COUNTS. Prove the row's statement (the work); the ties are given (YtcckoncgfmbhiabDoorTie.lean); close each card by the builder's one call (the guide's Derived/Test/ToyasCard.lean, 'card_holds'). Laid BY PROGRAM, IN A SANDBOX (cutbox-door.mjs). By AI agents, Wed Nov 11 2026. No macro, syntax, notation, axiom, sorry.
-/
import Derived.Test.YtcckoncgfmbhiabDoorRows
import GoSem.ClaimSeven
namespace Go.Proofs.YtcckoncgfmbhiabDoor
namespace Rows

/-- THE TIED CARD OF 'wigwaglaw06.FilterNumbers'. -/
def filterNumbersCard : Claim7 := { stood := { row := filterNumbersRow, standIns := [], harness := (true, "f0cfad1b7614280a9ff87fbb5e8a22453ff14ad92a1e2eb05f885469a938f7d3"), looks := true }, kinds := [], alts := [], laidByText := true, laidKinds := [.data, .data, .data, .handle, .sentinel, .sentinel], laidTests := true, laidLooks := .later }
def FilterNumbersCardSaid : Prop := Claim7.holds Tryd.pinned (.plain (OpenSpec.ofChange filterNumbersSpec)) filterNumbersCard

/-- THE TIED CARD OF 'wigwaglaw06.FilterStrings'. -/
def filterStringsCard : Claim7 := { stood := { row := filterStringsRow, standIns := [], harness := (true, "f0cfad1b7614280a9ff87fbb5e8a22453ff14ad92a1e2eb05f885469a938f7d3"), looks := true }, kinds := [], alts := [], laidByText := true, laidKinds := [.data, .data, .data, .handle, .sentinel, .sentinel], laidTests := true, laidLooks := .later }
def FilterStringsCardSaid : Prop := Claim7.holds Tryd.pinned (.plain (OpenSpec.ofChange filterStringsSpec)) filterStringsCard

/-- THE SECOND FORM's CARD OF 'wigwaglaw06.FilterNumbers'. -/
def filterNumbersUptoCard : Claim7 := { stood := { row := filterNumbersUptoRow, standIns := [], harness := (true, "f0cfad1b7614280a9ff87fbb5e8a22453ff14ad92a1e2eb05f885469a938f7d3"), looks := true }, kinds := [], alts := [], laidByText := true, laidKinds := [.data, .data, .data, .handle, .sentinel, .sentinel], laidTests := true, laidLooks := .later }
def FilterNumbersUptoCardSaid : Prop := Claim7.holds Tryd.pinned (.plain (OpenSpec.upto filterNumbersSpec)) filterNumbersUptoCard

/-- THE SECOND FORM's CARD OF 'wigwaglaw06.FilterStrings'. -/
def filterStringsUptoCard : Claim7 := { stood := { row := filterStringsUptoRow, standIns := [], harness := (true, "f0cfad1b7614280a9ff87fbb5e8a22453ff14ad92a1e2eb05f885469a938f7d3"), looks := true }, kinds := [], alts := [], laidByText := true, laidKinds := [.data, .data, .data, .handle, .sentinel, .sentinel], laidTests := true, laidLooks := .later }
def FilterStringsUptoCardSaid : Prop := Claim7.holds Tryd.pinned (.plain (OpenSpec.upto filterStringsSpec)) filterStringsUptoCard
end Rows
end Go.Proofs.YtcckoncgfmbhiabDoor
