/-
  DERIVED. GIVEN WITH THE SEED: THE CARDS: each row of YtiafamfnbpbfiabDoorRows.lean that lists a variable, with what it lists TIED to the program's text (the seventh form; the later family's looks); each row that meets fmt, with fmt's text TOLD by the authors' own Lean function (tested against real Go, not proved from fmt's source: count such statements apart). THE CARD IS WHAT COUNTS. Prove the row's statement (the work); the ties are given (YtiafamfnbpbfiabDoorTie.lean); close each card by the builder's one call (the guide's Derived/Test/ToyasCard.lean, 'card_holds'). Laid BY PROGRAM, IN A SANDBOX (cutbox-door.mjs). By AI agents, Wed Nov 11 2026. No macro, syntax, notation, axiom, sorry.
-/
import Derived.Test.YtiafamfnbpbfiabDoorRows
import GoSem.ClaimSeven
namespace Go.Proofs.YtiafamfnbpbfiabDoor
namespace Rows

/-- THE TIED CARD OF 'wigwaglaw08.GroupTight'. -/
def groupTightCard : Claim7 := { stood := { row := groupTightRow, standIns := [], harness := (true, "497da9085848197bcef7161527e9fe00493eebb062bd6c7c6bd00297311af939"), looks := false }, kinds := [], alts := [], laidByText := true, laidKinds := [.data, .data, .data], laidTests := true, laidLooks := .later }
def GroupTightCardSaid : Prop := Claim7.holds Tryd.pinned (.plain (OpenSpec.ofChange groupTightSpec)) groupTightCard

/-- THE TIED CARD OF 'wigwagtop.WigwagMet'. -/
def wigwagMetCard : Claim7 := { stood := { row := wigwagMetRow, standIns := [], harness := (true, "497da9085848197bcef7161527e9fe00493eebb062bd6c7c6bd00297311af939"), looks := false }, kinds := [], alts := [], laidByText := true, laidKinds := [.data, .data, .data], laidTests := true, laidLooks := .later }
def WigwagMetCardSaid : Prop := Claim7.holds Tryd.pinned (.plain (OpenSpec.ofChange wigwagMetSpec)) wigwagMetCard

/-- THE SECOND FORM's CARD OF 'wigwaglaw08.GroupTight'. -/
def groupTightUptoCard : Claim7 := { stood := { row := groupTightUptoRow, standIns := [], harness := (true, "497da9085848197bcef7161527e9fe00493eebb062bd6c7c6bd00297311af939"), looks := false }, kinds := [], alts := [], laidByText := true, laidKinds := [.data, .data, .data], laidTests := true, laidLooks := .later }
def GroupTightUptoCardSaid : Prop := Claim7.holds Tryd.pinned (.plain (OpenSpec.upto groupTightSpec)) groupTightUptoCard

/-- THE SECOND FORM's CARD OF 'wigwagtop.WigwagMet'. -/
def wigwagMetUptoCard : Claim7 := { stood := { row := wigwagMetUptoRow, standIns := [], harness := (true, "497da9085848197bcef7161527e9fe00493eebb062bd6c7c6bd00297311af939"), looks := false }, kinds := [], alts := [], laidByText := true, laidKinds := [.data, .data, .data], laidTests := true, laidLooks := .later }
def WigwagMetUptoCardSaid : Prop := Claim7.holds Tryd.pinned (.plain (OpenSpec.upto wigwagMetSpec)) wigwagMetUptoCard
end Rows
end Go.Proofs.YtiafamfnbpbfiabDoor
