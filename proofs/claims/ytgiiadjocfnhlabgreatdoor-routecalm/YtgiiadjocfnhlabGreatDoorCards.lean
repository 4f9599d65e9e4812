/-
  DERIVED. GIVEN WITH THE SEED: THE CARDS: each row of YtgiiadjocfnhlabGreatDoorRows.lean that lists a variable, with what it lists TIED to the program's text (the seventh form; the later family's looks); each row that meets fmt, with fmt's text TOLD by the authors' own Lean function (tested against real Go, not proved from fmt's source: count such statements apart). THE CARD IS WHAT COUNTS. Prove the row's statement (the work); the ties are given (YtgiiadjocfnhlabGreatDoorTie.lean); close each card by the builder's one call (the guide's Derived/Test/ToyasCard.lean, 'card_holds'). Laid BY PROGRAM, IN A SANDBOX (cutbox-door.mjs). By AI agents, Wed Nov 11 2026. No macro, syntax, notation, axiom, sorry.
-/
import Derived.Test.YtgiiadjocfnhlabGreatDoorRows
import GoSem.ClaimSeven
namespace Go.Proofs.YtgiiadjocfnhlabGreatDoor
namespace Rows

/-- THE TIED CARD OF 'wigwaglaw12.RoutePlays'. -/
def routePlaysCard : Claim7 := { stood := { row := routePlaysRow, standIns := [], harness := (true, "38ed07e560a91184882e99392f489255bb7191b244fb549ebb9b54e29bf314a8"), looks := true }, kinds := [], alts := [], laidByText := true, laidKinds := [.handle], laidTests := true, laidLooks := .later }
def RoutePlaysCardSaid : Prop := Claim7.holds Tryz.pinned (.plain (OpenSpec.ofChange routePlaysSpec)) routePlaysCard

/-- THE TIED CARD OF 'wigwaglaw12.RouteCalm'. -/
def routeCalmCard : Claim7 := { stood := { row := routeCalmRow, standIns := [], harness := (true, "38ed07e560a91184882e99392f489255bb7191b244fb549ebb9b54e29bf314a8"), looks := true }, kinds := [], alts := [], laidByText := true, laidKinds := [.handle], laidTests := true, laidLooks := .later }
def RouteCalmCardSaid : Prop := Claim7.holds Tryz.pinned (.plain (OpenSpec.ofChange routeCalmSpec)) routeCalmCard

/-- THE TIED CARD OF 'wigwaglaw12.RouteNears'. -/
def routeNearsCard : Claim7 := { stood := { row := routeNearsRow, standIns := [], harness := (true, "38ed07e560a91184882e99392f489255bb7191b244fb549ebb9b54e29bf314a8"), looks := true }, kinds := [], alts := [], laidByText := true, laidKinds := [.handle], laidTests := true, laidLooks := .later }
def RouteNearsCardSaid : Prop := Claim7.holds Tryz.pinned (.plain (OpenSpec.ofChange routeNearsSpec)) routeNearsCard

/-- THE TIED CARD OF 'wigwaglaw12.RouteOwn'. -/
def routeOwnCard : Claim7 := { stood := { row := routeOwnRow, standIns := [], harness := (true, "38ed07e560a91184882e99392f489255bb7191b244fb549ebb9b54e29bf314a8"), looks := true }, kinds := [], alts := [], laidByText := true, laidKinds := [.handle], laidTests := true, laidLooks := .later }
def RouteOwnCardSaid : Prop := Claim7.holds Tryz.pinned (.plain (OpenSpec.ofChange routeOwnSpec)) routeOwnCard

/-- THE TIED CARD OF 'wigwaglaw12.RouteSteps'. -/
def routeStepsCard : Claim7 := { stood := { row := routeStepsRow, standIns := [], harness := (true, "38ed07e560a91184882e99392f489255bb7191b244fb549ebb9b54e29bf314a8"), looks := true }, kinds := [], alts := [], laidByText := true, laidKinds := [.handle], laidTests := true, laidLooks := .later }
def RouteStepsCardSaid : Prop := Claim7.holds Tryz.pinned (.plain (OpenSpec.ofChange routeStepsSpec)) routeStepsCard

/-- THE TIED CARD OF 'wigwagtop.WigwagWays'. -/
def wigwagWaysCard : Claim7 := { stood := { row := wigwagWaysRow, standIns := [], harness := (true, "38ed07e560a91184882e99392f489255bb7191b244fb549ebb9b54e29bf314a8"), looks := true }, kinds := [], alts := [], laidByText := true, laidKinds := [.handle], laidTests := true, laidLooks := .later }
def WigwagWaysCardSaid : Prop := Claim7.holds Tryz.pinned (.plain (OpenSpec.ofChange wigwagWaysSpec)) wigwagWaysCard

/-- THE SECOND FORM's CARD OF 'wigwaglaw12.RoutePlays'. -/
def routePlaysUptoCard : Claim7 := { stood := { row := routePlaysUptoRow, standIns := [], harness := (true, "38ed07e560a91184882e99392f489255bb7191b244fb549ebb9b54e29bf314a8"), looks := true }, kinds := [], alts := [], laidByText := true, laidKinds := [.handle], laidTests := true, laidLooks := .later }
def RoutePlaysUptoCardSaid : Prop := Claim7.holds Tryz.pinned (.plain (OpenSpec.upto routePlaysSpec)) routePlaysUptoCard

/-- THE SECOND FORM's CARD OF 'wigwaglaw12.RouteCalm'. -/
def routeCalmUptoCard : Claim7 := { stood := { row := routeCalmUptoRow, standIns := [], harness := (true, "38ed07e560a91184882e99392f489255bb7191b244fb549ebb9b54e29bf314a8"), looks := true }, kinds := [], alts := [], laidByText := true, laidKinds := [.handle], laidTests := true, laidLooks := .later }
def RouteCalmUptoCardSaid : Prop := Claim7.holds Tryz.pinned (.plain (OpenSpec.upto routeCalmSpec)) routeCalmUptoCard

/-- THE SECOND FORM's CARD OF 'wigwaglaw12.RouteNears'. -/
def routeNearsUptoCard : Claim7 := { stood := { row := routeNearsUptoRow, standIns := [], harness := (true, "38ed07e560a91184882e99392f489255bb7191b244fb549ebb9b54e29bf314a8"), looks := true }, kinds := [], alts := [], laidByText := true, laidKinds := [.handle], laidTests := true, laidLooks := .later }
def RouteNearsUptoCardSaid : Prop := Claim7.holds Tryz.pinned (.plain (OpenSpec.upto routeNearsSpec)) routeNearsUptoCard

/-- THE SECOND FORM's CARD OF 'wigwaglaw12.RouteOwn'. -/
def routeOwnUptoCard : Claim7 := { stood := { row := routeOwnUptoRow, standIns := [], harness := (true, "38ed07e560a91184882e99392f489255bb7191b244fb549ebb9b54e29bf314a8"), looks := true }, kinds := [], alts := [], laidByText := true, laidKinds := [.handle], laidTests := true, laidLooks := .later }
def RouteOwnUptoCardSaid : Prop := Claim7.holds Tryz.pinned (.plain (OpenSpec.upto routeOwnSpec)) routeOwnUptoCard

/-- THE SECOND FORM's CARD OF 'wigwaglaw12.RouteSteps'. -/
def routeStepsUptoCard : Claim7 := { stood := { row := routeStepsUptoRow, standIns := [], harness := (true, "38ed07e560a91184882e99392f489255bb7191b244fb549ebb9b54e29bf314a8"), looks := true }, kinds := [], alts := [], laidByText := true, laidKinds := [.handle], laidTests := true, laidLooks := .later }
def RouteStepsUptoCardSaid : Prop := Claim7.holds Tryz.pinned (.plain (OpenSpec.upto routeStepsSpec)) routeStepsUptoCard

/-- THE SECOND FORM's CARD OF 'wigwagtop.WigwagWays'. -/
def wigwagWaysUptoCard : Claim7 := { stood := { row := wigwagWaysUptoRow, standIns := [], harness := (true, "38ed07e560a91184882e99392f489255bb7191b244fb549ebb9b54e29bf314a8"), looks := true }, kinds := [], alts := [], laidByText := true, laidKinds := [.handle], laidTests := true, laidLooks := .later }
def WigwagWaysUptoCardSaid : Prop := Claim7.holds Tryz.pinned (.plain (OpenSpec.upto wigwagWaysSpec)) wigwagWaysUptoCard
end Rows
end Go.Proofs.YtgiiadjocfnhlabGreatDoor
