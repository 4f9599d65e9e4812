/-
  DERIVED. GIVEN WITH THE SEED: THE CARDS: each row of YtcckoncgfmbhiaaDoorRows.lean that lists a variable, with what it lists TIED to the program's text (the seventh form; the later family's looks); each row that meets fmt, with fmt's text TOLD by the authors' own Lean function (tested against real Go, not proved from fmt's source: count such statements apart). THE CARD IS WHAT COUNTS. Prove the row's statement (the work); the ties are given (YtcckoncgfmbhiaaDoorTie.lean); close each card by the builder's one call (the guide's Derived/Test/ToyasCard.lean, 'card_holds'). Laid BY PROGRAM, IN A SANDBOX (cutbox-door.mjs). By AI agents, Wed Nov 11 2026. No macro, syntax, notation, axiom, sorry.
-/
import Derived.Test.YtcckoncgfmbhiaaDoorRows
import GoSem.ClaimSeven
namespace Go.Proofs.YtcckoncgfmbhiaaDoor
namespace Rows

/-- THE TIED CARD OF 'wigwaglaw06.FilterParses'. -/
def filterParsesCard : Claim7 := { stood := { row := filterParsesRow, standIns := [], harness := (true, "9181197483563d07d2a5994f3552607cc27dd103e0fd44f648ccbcdd705e4bb4"), looks := true }, kinds := [], alts := [], laidByText := true, laidKinds := [.data, .data, .data, .handle, .sentinel, .sentinel], laidTests := true, laidLooks := .later }
def FilterParsesCardSaid : Prop := Claim7.holds Tryd.pinned (.plain (OpenSpec.ofChange filterParsesSpec)) filterParsesCard

/-- THE TIED CARD OF 'wigwaglaw06.FilterBlanks'. -/
def filterBlanksCard : Claim7 := { stood := { row := filterBlanksRow, standIns := [], harness := (true, "9181197483563d07d2a5994f3552607cc27dd103e0fd44f648ccbcdd705e4bb4"), looks := true }, kinds := [], alts := [], laidByText := true, laidKinds := [.data, .data, .data, .handle, .sentinel, .sentinel], laidTests := true, laidLooks := .later }
def FilterBlanksCardSaid : Prop := Claim7.holds Tryd.pinned (.plain (OpenSpec.ofChange filterBlanksSpec)) filterBlanksCard

/-- THE TIED CARD OF 'wigwaglaw06.FilterJoins'. -/
def filterJoinsCard : Claim7 := { stood := { row := filterJoinsRow, standIns := [], harness := (true, "9181197483563d07d2a5994f3552607cc27dd103e0fd44f648ccbcdd705e4bb4"), looks := true }, kinds := [], alts := [], laidByText := true, laidKinds := [.data, .data, .data, .handle, .sentinel, .sentinel], laidTests := true, laidLooks := .later }
def FilterJoinsCardSaid : Prop := Claim7.holds Tryd.pinned (.plain (OpenSpec.ofChange filterJoinsSpec)) filterJoinsCard

/-- THE TIED CARD OF 'wigwaglaw06.FilterPlaces'. -/
def filterPlacesCard : Claim7 := { stood := { row := filterPlacesRow, standIns := [], harness := (true, "9181197483563d07d2a5994f3552607cc27dd103e0fd44f648ccbcdd705e4bb4"), looks := true }, kinds := [], alts := [], laidByText := true, laidKinds := [.data, .data, .data, .handle, .sentinel, .sentinel], laidTests := true, laidLooks := .later }
def FilterPlacesCardSaid : Prop := Claim7.holds Tryd.pinned (.plain (OpenSpec.ofChange filterPlacesSpec)) filterPlacesCard

/-- THE SECOND FORM's CARD OF 'wigwaglaw06.FilterParses'. -/
def filterParsesUptoCard : Claim7 := { stood := { row := filterParsesUptoRow, standIns := [], harness := (true, "9181197483563d07d2a5994f3552607cc27dd103e0fd44f648ccbcdd705e4bb4"), looks := true }, kinds := [], alts := [], laidByText := true, laidKinds := [.data, .data, .data, .handle, .sentinel, .sentinel], laidTests := true, laidLooks := .later }
def FilterParsesUptoCardSaid : Prop := Claim7.holds Tryd.pinned (.plain (OpenSpec.upto filterParsesSpec)) filterParsesUptoCard

/-- THE SECOND FORM's CARD OF 'wigwaglaw06.FilterBlanks'. -/
def filterBlanksUptoCard : Claim7 := { stood := { row := filterBlanksUptoRow, standIns := [], harness := (true, "9181197483563d07d2a5994f3552607cc27dd103e0fd44f648ccbcdd705e4bb4"), looks := true }, kinds := [], alts := [], laidByText := true, laidKinds := [.data, .data, .data, .handle, .sentinel, .sentinel], laidTests := true, laidLooks := .later }
def FilterBlanksUptoCardSaid : Prop := Claim7.holds Tryd.pinned (.plain (OpenSpec.upto filterBlanksSpec)) filterBlanksUptoCard

/-- THE SECOND FORM's CARD OF 'wigwaglaw06.FilterJoins'. -/
def filterJoinsUptoCard : Claim7 := { stood := { row := filterJoinsUptoRow, standIns := [], harness := (true, "9181197483563d07d2a5994f3552607cc27dd103e0fd44f648ccbcdd705e4bb4"), looks := true }, kinds := [], alts := [], laidByText := true, laidKinds := [.data, .data, .data, .handle, .sentinel, .sentinel], laidTests := true, laidLooks := .later }
def FilterJoinsUptoCardSaid : Prop := Claim7.holds Tryd.pinned (.plain (OpenSpec.upto filterJoinsSpec)) filterJoinsUptoCard

/-- THE SECOND FORM's CARD OF 'wigwaglaw06.FilterPlaces'. -/
def filterPlacesUptoCard : Claim7 := { stood := { row := filterPlacesUptoRow, standIns := [], harness := (true, "9181197483563d07d2a5994f3552607cc27dd103e0fd44f648ccbcdd705e4bb4"), looks := true }, kinds := [], alts := [], laidByText := true, laidKinds := [.data, .data, .data, .handle, .sentinel, .sentinel], laidTests := true, laidLooks := .later }
def FilterPlacesUptoCardSaid : Prop := Claim7.holds Tryd.pinned (.plain (OpenSpec.upto filterPlacesSpec)) filterPlacesUptoCard
end Rows
end Go.Proofs.YtcckoncgfmbhiaaDoor
