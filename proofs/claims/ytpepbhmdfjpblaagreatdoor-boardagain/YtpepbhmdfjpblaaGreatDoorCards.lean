/-
  DERIVED. GIVEN WITH THE SEED: THE CARDS: each row of YtpepbhmdfjpblaaGreatDoorRows.lean that lists a variable, with what it lists TIED to the program's text (the seventh form; the later family's looks); each row that meets fmt, with fmt's text TOLD by the authors' own Lean function (tested against real Go, not proved from fmt's source: count such statements apart). THE CARD IS WHAT COUNTS. Prove the row's statement (the work); the ties are given (YtpepbhmdfjpblaaGreatDoorTie.lean); close each card by the builder's one call (the guide's Derived/Test/ToyasCard.lean, 'card_holds'). Laid BY PROGRAM, IN A SANDBOX (cutbox-door.mjs). By AI agents, Wed Nov 11 2026. No macro, syntax, notation, axiom, sorry.
-/
import Derived.Test.YtpepbhmdfjpblaaGreatDoorRows
import GoSem.ClaimSeven
namespace Go.Proofs.YtpepbhmdfjpblaaGreatDoor
namespace Rows

/-- THE TIED CARD OF 'wigwaglaw18.BoardPlays'. -/
def boardPlaysCard : Claim7 := { stood := { row := boardPlaysRow, standIns := [], harness := (true, "3b18eb4a88fe0e2378604c7570027d279f48bf23d280480b73b93681c3449119"), looks := true }, kinds := [], alts := [], laidByText := true, laidKinds := [.data, .data, .data, .handle, .sentinel, .sentinel], laidTests := true, laidLooks := .later }
def BoardPlaysCardSaid : Prop := Claim7.holds Tryz.pinned (.plain (OpenSpec.ofChange boardPlaysSpec)) boardPlaysCard

/-- THE TIED CARD OF 'wigwaglaw18.BoardOnce'. -/
def boardOnceCard : Claim7 := { stood := { row := boardOnceRow, standIns := [], harness := (true, "3b18eb4a88fe0e2378604c7570027d279f48bf23d280480b73b93681c3449119"), looks := true }, kinds := [], alts := [], laidByText := true, laidKinds := [.data, .data, .data, .sentinel, .sentinel], laidTests := true, laidLooks := .later }
def BoardOnceCardSaid : Prop := Claim7.holds Tryz.pinned (.plain (OpenSpec.ofChange boardOnceSpec)) boardOnceCard

/-- THE TIED CARD OF 'wigwaglaw18.BoardSame'. -/
def boardSameCard : Claim7 := { stood := { row := boardSameRow, standIns := [], harness := (true, "3b18eb4a88fe0e2378604c7570027d279f48bf23d280480b73b93681c3449119"), looks := true }, kinds := [], alts := [], laidByText := true, laidKinds := [.data, .data, .data, .sentinel, .sentinel], laidTests := true, laidLooks := .later }
def BoardSameCardSaid : Prop := Claim7.holds Tryz.pinned (.plain (OpenSpec.ofChange boardSameSpec)) boardSameCard

/-- THE TIED CARD OF 'wigwaglaw18.BoardGone'. -/
def boardGoneCard : Claim7 := { stood := { row := boardGoneRow, standIns := [], harness := (true, "3b18eb4a88fe0e2378604c7570027d279f48bf23d280480b73b93681c3449119"), looks := true }, kinds := [], alts := [], laidByText := true, laidKinds := [.data, .data, .data, .sentinel, .sentinel], laidTests := true, laidLooks := .later }
def BoardGoneCardSaid : Prop := Claim7.holds Tryz.pinned (.plain (OpenSpec.ofChange boardGoneSpec)) boardGoneCard

/-- THE TIED CARD OF 'wigwaglaw18.BoardAgain'. -/
def boardAgainCard : Claim7 := { stood := { row := boardAgainRow, standIns := [], harness := (true, "3b18eb4a88fe0e2378604c7570027d279f48bf23d280480b73b93681c3449119"), looks := true }, kinds := [], alts := [], laidByText := true, laidKinds := [.data, .data, .data, .sentinel, .sentinel], laidTests := true, laidLooks := .later }
def BoardAgainCardSaid : Prop := Claim7.holds Tryz.pinned (.plain (OpenSpec.ofChange boardAgainSpec)) boardAgainCard

/-- THE SECOND FORM's CARD OF 'wigwaglaw18.BoardPlays'. -/
def boardPlaysUptoCard : Claim7 := { stood := { row := boardPlaysUptoRow, standIns := [], harness := (true, "3b18eb4a88fe0e2378604c7570027d279f48bf23d280480b73b93681c3449119"), looks := true }, kinds := [], alts := [], laidByText := true, laidKinds := [.data, .data, .data, .handle, .sentinel, .sentinel], laidTests := true, laidLooks := .later }
def BoardPlaysUptoCardSaid : Prop := Claim7.holds Tryz.pinned (.plain (OpenSpec.upto boardPlaysSpec)) boardPlaysUptoCard

/-- THE SECOND FORM's CARD OF 'wigwaglaw18.BoardOnce'. -/
def boardOnceUptoCard : Claim7 := { stood := { row := boardOnceUptoRow, standIns := [], harness := (true, "3b18eb4a88fe0e2378604c7570027d279f48bf23d280480b73b93681c3449119"), looks := true }, kinds := [], alts := [], laidByText := true, laidKinds := [.data, .data, .data, .sentinel, .sentinel], laidTests := true, laidLooks := .later }
def BoardOnceUptoCardSaid : Prop := Claim7.holds Tryz.pinned (.plain (OpenSpec.upto boardOnceSpec)) boardOnceUptoCard

/-- THE SECOND FORM's CARD OF 'wigwaglaw18.BoardSame'. -/
def boardSameUptoCard : Claim7 := { stood := { row := boardSameUptoRow, standIns := [], harness := (true, "3b18eb4a88fe0e2378604c7570027d279f48bf23d280480b73b93681c3449119"), looks := true }, kinds := [], alts := [], laidByText := true, laidKinds := [.data, .data, .data, .sentinel, .sentinel], laidTests := true, laidLooks := .later }
def BoardSameUptoCardSaid : Prop := Claim7.holds Tryz.pinned (.plain (OpenSpec.upto boardSameSpec)) boardSameUptoCard

/-- THE SECOND FORM's CARD OF 'wigwaglaw18.BoardGone'. -/
def boardGoneUptoCard : Claim7 := { stood := { row := boardGoneUptoRow, standIns := [], harness := (true, "3b18eb4a88fe0e2378604c7570027d279f48bf23d280480b73b93681c3449119"), looks := true }, kinds := [], alts := [], laidByText := true, laidKinds := [.data, .data, .data, .sentinel, .sentinel], laidTests := true, laidLooks := .later }
def BoardGoneUptoCardSaid : Prop := Claim7.holds Tryz.pinned (.plain (OpenSpec.upto boardGoneSpec)) boardGoneUptoCard

/-- THE SECOND FORM's CARD OF 'wigwaglaw18.BoardAgain'. -/
def boardAgainUptoCard : Claim7 := { stood := { row := boardAgainUptoRow, standIns := [], harness := (true, "3b18eb4a88fe0e2378604c7570027d279f48bf23d280480b73b93681c3449119"), looks := true }, kinds := [], alts := [], laidByText := true, laidKinds := [.data, .data, .data, .sentinel, .sentinel], laidTests := true, laidLooks := .later }
def BoardAgainUptoCardSaid : Prop := Claim7.holds Tryz.pinned (.plain (OpenSpec.upto boardAgainSpec)) boardAgainUptoCard
end Rows
end Go.Proofs.YtpepbhmdfjpblaaGreatDoor
