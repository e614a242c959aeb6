/-
  DERIVED. GIVEN WITH THE SEED: THE CARDS: each row of YtolbhhokpelchabDoorRows.lean that lists a variable, with what it lists TIED to the program's text (the seventh form; the later family's looks); each row that meets fmt, with fmt's text TOLD by the authors' own Lean function (tested against real Go, not proved from fmt's source: count such statements apart). THE CARD IS WHAT COUNTS. Prove the row's statement (the work); the ties are given (YtolbhhokpelchabDoorTie.lean); close each card by the builder's one call (the guide's Derived/Test/ToyasCard.lean, 'card_holds'). Laid BY PROGRAM, IN A SANDBOX (cutbox-door.mjs). By AI agents, Wed Nov 11 2026. No macro, syntax, notation, axiom, sorry.
-/
import Derived.Test.YtolbhhokpelchabDoorRows
import GoSem.ClaimSeven
namespace Go.Proofs.YtolbhhokpelchabDoor
namespace Rows

/-- THE TIED CARD OF 'transhipmentlaw09.RoutesFind'. -/
def routesFindCard : Claim7 := { stood := { row := routesFindRow, standIns := [], harness := (true, "2f91f9abff5add8886cdd4badad6f073a8795afa963c9fd265471b79c0363217"), looks := false }, kinds := [], alts := [], laidByText := true, laidKinds := [.data, .data, .data], laidTests := true, laidLooks := .later }
def RoutesFindCardSaid : Prop := Claim7.holds Tryd.pinned (.plain (OpenSpec.ofChange routesFindSpec)) routesFindCard

/-- THE TIED CARD OF 'transhipmentlaw09.RoutesNames'. -/
def routesNamesCard : Claim7 := { stood := { row := routesNamesRow, standIns := [], harness := (true, "2f91f9abff5add8886cdd4badad6f073a8795afa963c9fd265471b79c0363217"), looks := false }, kinds := [], alts := [], laidByText := true, laidKinds := [.data, .data, .data], laidTests := true, laidLooks := .later }
def RoutesNamesCardSaid : Prop := Claim7.holds Tryd.pinned (.plain (OpenSpec.ofChange routesNamesSpec)) routesNamesCard

/-- THE SECOND FORM's CARD OF 'transhipmentlaw09.RoutesFind'. -/
def routesFindUptoCard : Claim7 := { stood := { row := routesFindUptoRow, standIns := [], harness := (true, "2f91f9abff5add8886cdd4badad6f073a8795afa963c9fd265471b79c0363217"), looks := false }, kinds := [], alts := [], laidByText := true, laidKinds := [.data, .data, .data], laidTests := true, laidLooks := .later }
def RoutesFindUptoCardSaid : Prop := Claim7.holds Tryd.pinned (.plain (OpenSpec.upto routesFindSpec)) routesFindUptoCard

/-- THE SECOND FORM's CARD OF 'transhipmentlaw09.RoutesNames'. -/
def routesNamesUptoCard : Claim7 := { stood := { row := routesNamesUptoRow, standIns := [], harness := (true, "2f91f9abff5add8886cdd4badad6f073a8795afa963c9fd265471b79c0363217"), looks := false }, kinds := [], alts := [], laidByText := true, laidKinds := [.data, .data, .data], laidTests := true, laidLooks := .later }
def RoutesNamesUptoCardSaid : Prop := Claim7.holds Tryd.pinned (.plain (OpenSpec.upto routesNamesSpec)) routesNamesUptoCard
end Rows
end Go.Proofs.YtolbhhokpelchabDoor
