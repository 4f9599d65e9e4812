/-
  DERIVED. GIVEN WITH THE SEED: THE CARDS: each row of YthadgekojenpjaaDoorRows.lean that lists a variable, with what it lists TIED to the program's text (the seventh form; the later family's looks); each row that meets fmt, with fmt's text TOLD by the authors' own Lean function (tested against real Go, not proved from fmt's source: count such statements apart). THE CARD IS WHAT COUNTS. Prove the row's statement (the work); the ties are given (YthadgekojenpjaaDoorTie.lean); close each card by the builder's one call (the guide's Derived/Test/ToyasCard.lean, 'card_holds'). Laid BY PROGRAM, IN A SANDBOX (cutbox-door.mjs). By AI agents, Wed Nov 11 2026. No macro, syntax, notation, axiom, sorry.
-/
import Derived.Test.YthadgekojenpjaaDoorRows
import GoSem.ClaimSeven
namespace Go.Proofs.YthadgekojenpjaaDoor
namespace Rows

/-- THE TIED CARD OF 'wigwaglaw02.CodeCut'. -/
def codeCutCard : Claim7 := { stood := { row := codeCutRow, standIns := [], harness := (true, "20e80cc7fc0a3fe2cc2e921929e1ebe9a55e331ea4a7879896e9576dfb42fe9f"), looks := true }, kinds := [], alts := [], laidByText := true, laidKinds := [.handle], laidTests := true, laidLooks := .later }
def CodeCutCardSaid : Prop := Claim7.holds Tryd.pinned (.plain (OpenSpec.ofChange codeCutSpec)) codeCutCard

/-- THE TIED CARD OF 'wigwaglaw02.CodeStops'. -/
def codeStopsCard : Claim7 := { stood := { row := codeStopsRow, standIns := [], harness := (true, "20e80cc7fc0a3fe2cc2e921929e1ebe9a55e331ea4a7879896e9576dfb42fe9f"), looks := true }, kinds := [], alts := [], laidByText := true, laidKinds := [.handle], laidTests := true, laidLooks := .later }
def CodeStopsCardSaid : Prop := Claim7.holds Tryd.pinned (.plain (OpenSpec.ofChange codeStopsSpec)) codeStopsCard

/-- THE SECOND FORM's CARD OF 'wigwaglaw02.CodeCut'. -/
def codeCutUptoCard : Claim7 := { stood := { row := codeCutUptoRow, standIns := [], harness := (true, "20e80cc7fc0a3fe2cc2e921929e1ebe9a55e331ea4a7879896e9576dfb42fe9f"), looks := true }, kinds := [], alts := [], laidByText := true, laidKinds := [.handle], laidTests := true, laidLooks := .later }
def CodeCutUptoCardSaid : Prop := Claim7.holds Tryd.pinned (.plain (OpenSpec.upto codeCutSpec)) codeCutUptoCard

/-- THE SECOND FORM's CARD OF 'wigwaglaw02.CodeStops'. -/
def codeStopsUptoCard : Claim7 := { stood := { row := codeStopsUptoRow, standIns := [], harness := (true, "20e80cc7fc0a3fe2cc2e921929e1ebe9a55e331ea4a7879896e9576dfb42fe9f"), looks := true }, kinds := [], alts := [], laidByText := true, laidKinds := [.handle], laidTests := true, laidLooks := .later }
def CodeStopsUptoCardSaid : Prop := Claim7.holds Tryd.pinned (.plain (OpenSpec.upto codeStopsSpec)) codeStopsUptoCard
end Rows
end Go.Proofs.YthadgekojenpjaaDoor
