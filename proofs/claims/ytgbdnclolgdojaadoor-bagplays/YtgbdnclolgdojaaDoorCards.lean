/-
  DERIVED. GIVEN WITH THE SEED: THE CARDS: each row of YtgbdnclolgdojaaDoorRows.lean that lists a variable, with what it lists TIED to the program's text (the seventh form; the later family's looks); each row that meets fmt, with fmt's text TOLD by the authors' own Lean function (tested against real Go, not proved from fmt's source: count such statements apart). THE CARD IS WHAT COUNTS. Prove the row's statement (the work); the ties are given (YtgbdnclolgdojaaDoorTie.lean); close each card by the builder's one call (the guide's Derived/Test/ToyasCard.lean, 'card_holds'). Laid BY PROGRAM, IN A SANDBOX (cutbox-door.mjs). By AI agents, Wed Nov 11 2026. No macro, syntax, notation, axiom, sorry.
-/
import Derived.Test.YtgbdnclolgdojaaDoorRows
import GoSem.ClaimSeven
namespace Go.Proofs.YtgbdnclolgdojaaDoor
namespace Rows

/-- THE TIED CARD OF 'wigwaglaw03.BagPlays'. -/
def bagPlaysCard : Claim7 := { stood := { row := bagPlaysRow, standIns := [], harness := (true, "20172553e1c08f8ebe8455d81d10071b9e3048dbf843d06a3494d3aa71de1a99"), looks := true }, kinds := [], alts := [], laidByText := true, laidKinds := [.handle], laidTests := true, laidLooks := .later }
def BagPlaysCardSaid : Prop := Claim7.holds Tryd.pinned (.plain (OpenSpec.ofChange bagPlaysSpec)) bagPlaysCard

/-- THE TIED CARD OF 'wigwaglaw04.LinkPlays'. -/
def linkPlaysCard : Claim7 := { stood := { row := linkPlaysRow, standIns := [], harness := (true, "20172553e1c08f8ebe8455d81d10071b9e3048dbf843d06a3494d3aa71de1a99"), looks := true }, kinds := [], alts := [], laidByText := true, laidKinds := [.handle], laidTests := true, laidLooks := .later }
def LinkPlaysCardSaid : Prop := Claim7.holds Tryd.pinned (.plain (OpenSpec.ofChange linkPlaysSpec)) linkPlaysCard

/-- THE TIED CARD OF 'wigwaglaw04.LinkTakes'. -/
def linkTakesCard : Claim7 := { stood := { row := linkTakesRow, standIns := [], harness := (true, "20172553e1c08f8ebe8455d81d10071b9e3048dbf843d06a3494d3aa71de1a99"), looks := true }, kinds := [], alts := [], laidByText := true, laidKinds := [.handle], laidTests := true, laidLooks := .later }
def LinkTakesCardSaid : Prop := Claim7.holds Tryd.pinned (.plain (OpenSpec.ofChange linkTakesSpec)) linkTakesCard

/-- THE SECOND FORM's CARD OF 'wigwaglaw03.BagPlays'. -/
def bagPlaysUptoCard : Claim7 := { stood := { row := bagPlaysUptoRow, standIns := [], harness := (true, "20172553e1c08f8ebe8455d81d10071b9e3048dbf843d06a3494d3aa71de1a99"), looks := true }, kinds := [], alts := [], laidByText := true, laidKinds := [.handle], laidTests := true, laidLooks := .later }
def BagPlaysUptoCardSaid : Prop := Claim7.holds Tryd.pinned (.plain (OpenSpec.upto bagPlaysSpec)) bagPlaysUptoCard

/-- THE SECOND FORM's CARD OF 'wigwaglaw04.LinkPlays'. -/
def linkPlaysUptoCard : Claim7 := { stood := { row := linkPlaysUptoRow, standIns := [], harness := (true, "20172553e1c08f8ebe8455d81d10071b9e3048dbf843d06a3494d3aa71de1a99"), looks := true }, kinds := [], alts := [], laidByText := true, laidKinds := [.handle], laidTests := true, laidLooks := .later }
def LinkPlaysUptoCardSaid : Prop := Claim7.holds Tryd.pinned (.plain (OpenSpec.upto linkPlaysSpec)) linkPlaysUptoCard

/-- THE SECOND FORM's CARD OF 'wigwaglaw04.LinkTakes'. -/
def linkTakesUptoCard : Claim7 := { stood := { row := linkTakesUptoRow, standIns := [], harness := (true, "20172553e1c08f8ebe8455d81d10071b9e3048dbf843d06a3494d3aa71de1a99"), looks := true }, kinds := [], alts := [], laidByText := true, laidKinds := [.handle], laidTests := true, laidLooks := .later }
def LinkTakesUptoCardSaid : Prop := Claim7.holds Tryd.pinned (.plain (OpenSpec.upto linkTakesSpec)) linkTakesUptoCard
end Rows
end Go.Proofs.YtgbdnclolgdojaaDoor
