/-
  DERIVED. GIVEN WITH THE SEED: THE CARDS: each row of YtpcenhaieicejabDoorRows.lean that lists a variable, with what it lists TIED to the program's text (the seventh form; the later family's looks); each row that meets fmt, with fmt's text TOLD by the authors' own Lean function (tested against real Go, not proved from fmt's source: count such statements apart). THE CARD IS WHAT COUNTS. Prove the row's statement (the work); the ties are given (YtpcenhaieicejabDoorTie.lean); close each card by the builder's one call (the guide's Derived/Test/ToyasCard.lean, 'card_holds'). Laid BY PROGRAM, IN A SANDBOX (cutbox-door.mjs). By AI agents, Wed Nov 11 2026. No macro, syntax, notation, axiom, sorry.
-/
import Derived.Test.YtpcenhaieicejabDoorRows
import GoSem.ClaimSeven
namespace Go.Proofs.YtpcenhaieicejabDoor
namespace Rows

/-- THE TIED CARD OF 'transhipmentlaw09.RoutesFind'. -/
def routesFindCard : Claim7 := { stood := { row := routesFindRow, standIns := [], harness := (true, "11331128a4dd896728c92729cb0385aaf052c6818ac6a2790a2f4a971bc32e1b"), looks := false }, kinds := [], alts := [], laidByText := true, laidKinds := [.data, .data, .data], laidTests := true, laidLooks := .later }
def RoutesFindCardSaid : Prop := Claim7.holds Tryd.pinned (.plain (OpenSpec.ofChange routesFindSpec)) routesFindCard

/-- THE TIED CARD OF 'transhipmentlaw09.RoutesNames'. -/
def routesNamesCard : Claim7 := { stood := { row := routesNamesRow, standIns := [], harness := (true, "11331128a4dd896728c92729cb0385aaf052c6818ac6a2790a2f4a971bc32e1b"), looks := false }, kinds := [], alts := [], laidByText := true, laidKinds := [.data, .data, .data], laidTests := true, laidLooks := .later }
def RoutesNamesCardSaid : Prop := Claim7.holds Tryd.pinned (.plain (OpenSpec.ofChange routesNamesSpec)) routesNamesCard

/-- THE TIED CARD OF 'transhipmentlaw09.RoutesMore'. -/
def routesMoreCard : Claim7 := { stood := { row := routesMoreRow, standIns := [], harness := (true, "11331128a4dd896728c92729cb0385aaf052c6818ac6a2790a2f4a971bc32e1b"), looks := false }, kinds := [], alts := [], laidByText := true, laidKinds := [.data, .data, .data], laidTests := true, laidLooks := .later }
def RoutesMoreCardSaid : Prop := Claim7.holds Tryd.pinned (.plain (OpenSpec.ofChange routesMoreSpec)) routesMoreCard

/-- THE SECOND FORM's CARD OF 'transhipmentlaw09.RoutesFind'. -/
def routesFindUptoCard : Claim7 := { stood := { row := routesFindUptoRow, standIns := [], harness := (true, "11331128a4dd896728c92729cb0385aaf052c6818ac6a2790a2f4a971bc32e1b"), looks := false }, kinds := [], alts := [], laidByText := true, laidKinds := [.data, .data, .data], laidTests := true, laidLooks := .later }
def RoutesFindUptoCardSaid : Prop := Claim7.holds Tryd.pinned (.plain (OpenSpec.upto routesFindSpec)) routesFindUptoCard

/-- THE SECOND FORM's CARD OF 'transhipmentlaw09.RoutesNames'. -/
def routesNamesUptoCard : Claim7 := { stood := { row := routesNamesUptoRow, standIns := [], harness := (true, "11331128a4dd896728c92729cb0385aaf052c6818ac6a2790a2f4a971bc32e1b"), looks := false }, kinds := [], alts := [], laidByText := true, laidKinds := [.data, .data, .data], laidTests := true, laidLooks := .later }
def RoutesNamesUptoCardSaid : Prop := Claim7.holds Tryd.pinned (.plain (OpenSpec.upto routesNamesSpec)) routesNamesUptoCard

/-- THE SECOND FORM's CARD OF 'transhipmentlaw09.RoutesMore'. -/
def routesMoreUptoCard : Claim7 := { stood := { row := routesMoreUptoRow, standIns := [], harness := (true, "11331128a4dd896728c92729cb0385aaf052c6818ac6a2790a2f4a971bc32e1b"), looks := false }, kinds := [], alts := [], laidByText := true, laidKinds := [.data, .data, .data], laidTests := true, laidLooks := .later }
def RoutesMoreUptoCardSaid : Prop := Claim7.holds Tryd.pinned (.plain (OpenSpec.upto routesMoreSpec)) routesMoreUptoCard
end Rows
end Go.Proofs.YtpcenhaieicejabDoor
