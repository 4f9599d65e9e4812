/-
  DERIVED. GIVEN WITH THE SEED: THE CARDS: each row of YtkncpojijfeahaaGreatDoorRows.lean that lists a variable, with what it lists TIED to the program's text (the seventh form; the later family's looks); each row that meets fmt, with fmt's text TOLD by the authors' own Lean function (tested against real Go, not proved from fmt's source: count such statements apart). THE CARD IS WHAT COUNTS. Prove the row's statement (the work); the ties are given (YtkncpojijfeahaaGreatDoorTie.lean); close each card by the builder's one call (the guide's Derived/Test/ToyasCard.lean, 'card_holds'). Laid BY PROGRAM, IN A SANDBOX (cutbox-door.mjs). By AI agents, Wed Nov 11 2026. No macro, syntax, notation, axiom, sorry.
-/
import Derived.Test.YtkncpojijfeahaaGreatDoorRows
import GoSem.ClaimSeven
namespace Go.Proofs.YtkncpojijfeahaaGreatDoor
namespace Rows

/-- THE TIED CARD OF 'wigwaglaw18.BoardOnce'. -/
def boardOnceCard : Claim7 := { stood := { row := boardOnceRow, standIns := [], harness := (true, "02bdbaa27e9ee3cb02aab0e12b93f5ebb7efa351a57ac180e399f37158e8023a"), looks := true }, kinds := [], alts := [], laidByText := true, laidKinds := [.data, .data, .data, .sentinel, .sentinel], laidTests := true, laidLooks := .later }
def BoardOnceCardSaid : Prop := Claim7.holds Tryz.pinned (.plain (OpenSpec.ofChange boardOnceSpec)) boardOnceCard

/-- THE TIED CARD OF 'wigwaglaw18.BoardGone'. -/
def boardGoneCard : Claim7 := { stood := { row := boardGoneRow, standIns := [], harness := (true, "02bdbaa27e9ee3cb02aab0e12b93f5ebb7efa351a57ac180e399f37158e8023a"), looks := true }, kinds := [], alts := [], laidByText := true, laidKinds := [.data, .data, .data, .sentinel, .sentinel], laidTests := true, laidLooks := .later }
def BoardGoneCardSaid : Prop := Claim7.holds Tryz.pinned (.plain (OpenSpec.ofChange boardGoneSpec)) boardGoneCard

/-- THE TIED CARD OF 'wigwaglaw18.BoardPlays'. -/
def boardPlaysCard : Claim7 := { stood := { row := boardPlaysRow, standIns := [], harness := (true, "02bdbaa27e9ee3cb02aab0e12b93f5ebb7efa351a57ac180e399f37158e8023a"), looks := true }, kinds := [], alts := [], laidByText := true, laidKinds := [.data, .data, .data, .handle, .sentinel, .sentinel], laidTests := true, laidLooks := .later }
def BoardPlaysCardSaid : Prop := Claim7.holds Tryz.pinned (.plain (OpenSpec.ofChange boardPlaysSpec)) boardPlaysCard

/-- THE SECOND FORM's CARD OF 'wigwaglaw18.BoardOnce'. -/
def boardOnceUptoCard : Claim7 := { stood := { row := boardOnceUptoRow, standIns := [], harness := (true, "02bdbaa27e9ee3cb02aab0e12b93f5ebb7efa351a57ac180e399f37158e8023a"), looks := true }, kinds := [], alts := [], laidByText := true, laidKinds := [.data, .data, .data, .sentinel, .sentinel], laidTests := true, laidLooks := .later }
def BoardOnceUptoCardSaid : Prop := Claim7.holds Tryz.pinned (.plain (OpenSpec.upto boardOnceSpec)) boardOnceUptoCard

/-- THE SECOND FORM's CARD OF 'wigwaglaw18.BoardGone'. -/
def boardGoneUptoCard : Claim7 := { stood := { row := boardGoneUptoRow, standIns := [], harness := (true, "02bdbaa27e9ee3cb02aab0e12b93f5ebb7efa351a57ac180e399f37158e8023a"), looks := true }, kinds := [], alts := [], laidByText := true, laidKinds := [.data, .data, .data, .sentinel, .sentinel], laidTests := true, laidLooks := .later }
def BoardGoneUptoCardSaid : Prop := Claim7.holds Tryz.pinned (.plain (OpenSpec.upto boardGoneSpec)) boardGoneUptoCard

/-- THE SECOND FORM's CARD OF 'wigwaglaw18.BoardPlays'. -/
def boardPlaysUptoCard : Claim7 := { stood := { row := boardPlaysUptoRow, standIns := [], harness := (true, "02bdbaa27e9ee3cb02aab0e12b93f5ebb7efa351a57ac180e399f37158e8023a"), looks := true }, kinds := [], alts := [], laidByText := true, laidKinds := [.data, .data, .data, .handle, .sentinel, .sentinel], laidTests := true, laidLooks := .later }
def BoardPlaysUptoCardSaid : Prop := Claim7.holds Tryz.pinned (.plain (OpenSpec.upto boardPlaysSpec)) boardPlaysUptoCard
end Rows
end Go.Proofs.YtkncpojijfeahaaGreatDoor
