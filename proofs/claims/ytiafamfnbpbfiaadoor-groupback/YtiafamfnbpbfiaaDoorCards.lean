/-
  DERIVED. GIVEN WITH THE SEED: THE CARDS: each row of YtiafamfnbpbfiaaDoorRows.lean that lists a variable, with what it lists TIED to the program's text (the seventh form; the later family's looks); each row that meets fmt, with fmt's text TOLD by the authors' own Lean function (tested against real Go, not proved from fmt's source: count such statements apart). THE CARD IS WHAT COUNTS. Prove the row's statement (the work); the ties are given (YtiafamfnbpbfiaaDoorTie.lean); close each card by the builder's one call (the guide's Derived/Test/ToyasCard.lean, 'card_holds'). Laid BY PROGRAM, IN A SANDBOX (cutbox-door.mjs). By AI agents, Wed Nov 11 2026. No macro, syntax, notation, axiom, sorry.
-/
import Derived.Test.YtiafamfnbpbfiaaDoorRows
import GoSem.ClaimSeven
namespace Go.Proofs.YtiafamfnbpbfiaaDoor
namespace Rows

/-- THE TIED CARD OF 'wigwaglaw08.GroupOnce'. -/
def groupOnceCard : Claim7 := { stood := { row := groupOnceRow, standIns := [], harness := (true, "26ace9cbede786ea48c41821cbd81d840999e6cc7f9dc276f955fe4eeb003668"), looks := true }, kinds := [], alts := [], laidByText := true, laidKinds := [.data, .data, .data], laidTests := true, laidLooks := .later }
def GroupOnceCardSaid : Prop := Claim7.holds Tryd.pinned (.plain (OpenSpec.ofChange groupOnceSpec)) groupOnceCard

/-- THE TIED CARD OF 'wigwaglaw08.GroupBack'. -/
def groupBackCard : Claim7 := { stood := { row := groupBackRow, standIns := [], harness := (true, "26ace9cbede786ea48c41821cbd81d840999e6cc7f9dc276f955fe4eeb003668"), looks := true }, kinds := [], alts := [], laidByText := true, laidKinds := [.data, .data, .data, .sentinel, .sentinel], laidTests := true, laidLooks := .later }
def GroupBackCardSaid : Prop := Claim7.holds Tryd.pinned (.plain (OpenSpec.ofChange groupBackSpec)) groupBackCard

/-- THE TIED CARD OF 'wigwaglaw08.GroupApart'. -/
def groupApartCard : Claim7 := { stood := { row := groupApartRow, standIns := [], harness := (true, "26ace9cbede786ea48c41821cbd81d840999e6cc7f9dc276f955fe4eeb003668"), looks := true }, kinds := [], alts := [], laidByText := true, laidKinds := [.data, .data, .data], laidTests := true, laidLooks := .later }
def GroupApartCardSaid : Prop := Claim7.holds Tryd.pinned (.plain (OpenSpec.ofChange groupApartSpec)) groupApartCard

/-- THE TIED CARD OF 'wigwaglaw08.GroupFewest'. -/
def groupFewestCard : Claim7 := { stood := { row := groupFewestRow, standIns := [], harness := (true, "26ace9cbede786ea48c41821cbd81d840999e6cc7f9dc276f955fe4eeb003668"), looks := true }, kinds := [], alts := [], laidByText := true, laidKinds := [.data, .data, .data], laidTests := true, laidLooks := .later }
def GroupFewestCardSaid : Prop := Claim7.holds Tryd.pinned (.plain (OpenSpec.ofChange groupFewestSpec)) groupFewestCard

/-- THE SECOND FORM's CARD OF 'wigwaglaw08.GroupOnce'. -/
def groupOnceUptoCard : Claim7 := { stood := { row := groupOnceUptoRow, standIns := [], harness := (true, "26ace9cbede786ea48c41821cbd81d840999e6cc7f9dc276f955fe4eeb003668"), looks := true }, kinds := [], alts := [], laidByText := true, laidKinds := [.data, .data, .data], laidTests := true, laidLooks := .later }
def GroupOnceUptoCardSaid : Prop := Claim7.holds Tryd.pinned (.plain (OpenSpec.upto groupOnceSpec)) groupOnceUptoCard

/-- THE SECOND FORM's CARD OF 'wigwaglaw08.GroupBack'. -/
def groupBackUptoCard : Claim7 := { stood := { row := groupBackUptoRow, standIns := [], harness := (true, "26ace9cbede786ea48c41821cbd81d840999e6cc7f9dc276f955fe4eeb003668"), looks := true }, kinds := [], alts := [], laidByText := true, laidKinds := [.data, .data, .data, .sentinel, .sentinel], laidTests := true, laidLooks := .later }
def GroupBackUptoCardSaid : Prop := Claim7.holds Tryd.pinned (.plain (OpenSpec.upto groupBackSpec)) groupBackUptoCard

/-- THE SECOND FORM's CARD OF 'wigwaglaw08.GroupApart'. -/
def groupApartUptoCard : Claim7 := { stood := { row := groupApartUptoRow, standIns := [], harness := (true, "26ace9cbede786ea48c41821cbd81d840999e6cc7f9dc276f955fe4eeb003668"), looks := true }, kinds := [], alts := [], laidByText := true, laidKinds := [.data, .data, .data], laidTests := true, laidLooks := .later }
def GroupApartUptoCardSaid : Prop := Claim7.holds Tryd.pinned (.plain (OpenSpec.upto groupApartSpec)) groupApartUptoCard

/-- THE SECOND FORM's CARD OF 'wigwaglaw08.GroupFewest'. -/
def groupFewestUptoCard : Claim7 := { stood := { row := groupFewestUptoRow, standIns := [], harness := (true, "26ace9cbede786ea48c41821cbd81d840999e6cc7f9dc276f955fe4eeb003668"), looks := true }, kinds := [], alts := [], laidByText := true, laidKinds := [.data, .data, .data], laidTests := true, laidLooks := .later }
def GroupFewestUptoCardSaid : Prop := Claim7.holds Tryd.pinned (.plain (OpenSpec.upto groupFewestSpec)) groupFewestUptoCard
end Rows
end Go.Proofs.YtiafamfnbpbfiaaDoor
