/-
  DERIVED. GIVEN WITH THE SEED: THE CARDS: each row of YtdlhmjdjoadioabDoorRows.lean that lists a variable, with what it lists TIED to the program's text (the seventh form; the later family's looks); each row that meets fmt, with fmt's text TOLD by the authors' own Lean function (tested against real Go, not proved from fmt's source: count such statements apart). THE CARD IS WHAT COUNTS. Prove the row's statement (the work); the ties are given (YtdlhmjdjoadioabDoorTie.lean); close each card by the builder's one call (the guide's Derived/Test/ToyasCard.lean, 'card_holds'). Laid BY PROGRAM, IN A SANDBOX (cutbox-door.mjs). By AI agents, Wed Nov 11 2026. No macro, syntax, notation, axiom, sorry.
-/
import Derived.Test.YtdlhmjdjoadioabDoorRows
import GoSem.ClaimSeven
namespace Go.Proofs.YtdlhmjdjoadioabDoor
namespace Rows

/-- THE TIED CARD OF 'transhipmentlaw09.RoutesFind'. -/
def routesFindCard : Claim7 := { stood := { row := routesFindRow, standIns := [], harness := (true, "b5e4bb69706a2fa27e4ccee94e6518bfb9c3b0193f7bf306f521d3129737c4ed"), looks := false }, kinds := [], alts := [], laidByText := true, laidKinds := [.data, .data, .data], laidTests := true, laidLooks := .later }
def RoutesFindCardSaid : Prop := Claim7.holds Tryd.pinned (.plain (OpenSpec.ofChange routesFindSpec)) routesFindCard

/-- THE TIED CARD OF 'transhipmentlaw09.RoutesNames'. -/
def routesNamesCard : Claim7 := { stood := { row := routesNamesRow, standIns := [], harness := (true, "b5e4bb69706a2fa27e4ccee94e6518bfb9c3b0193f7bf306f521d3129737c4ed"), looks := false }, kinds := [], alts := [], laidByText := true, laidKinds := [.data, .data, .data], laidTests := true, laidLooks := .later }
def RoutesNamesCardSaid : Prop := Claim7.holds Tryd.pinned (.plain (OpenSpec.ofChange routesNamesSpec)) routesNamesCard

/-- THE TIED CARD OF 'transhipmentlaw09.RoutesLead'. -/
def routesLeadCard : Claim7 := { stood := { row := routesLeadRow, standIns := [], harness := (true, "b5e4bb69706a2fa27e4ccee94e6518bfb9c3b0193f7bf306f521d3129737c4ed"), looks := false }, kinds := [], alts := [], laidByText := true, laidKinds := [.data, .data, .data], laidTests := true, laidLooks := .later }
def RoutesLeadCardSaid : Prop := Claim7.holds Tryd.pinned (.plain (OpenSpec.ofChange routesLeadSpec)) routesLeadCard

/-- THE TIED CARD OF 'transhipmentlaw09.RoutesMore'. -/
def routesMoreCard : Claim7 := { stood := { row := routesMoreRow, standIns := [], harness := (true, "b5e4bb69706a2fa27e4ccee94e6518bfb9c3b0193f7bf306f521d3129737c4ed"), looks := false }, kinds := [], alts := [], laidByText := true, laidKinds := [.data, .data, .data], laidTests := true, laidLooks := .later }
def RoutesMoreCardSaid : Prop := Claim7.holds Tryd.pinned (.plain (OpenSpec.ofChange routesMoreSpec)) routesMoreCard

/-- THE SECOND FORM's CARD OF 'transhipmentlaw09.RoutesFind'. -/
def routesFindUptoCard : Claim7 := { stood := { row := routesFindUptoRow, standIns := [], harness := (true, "b5e4bb69706a2fa27e4ccee94e6518bfb9c3b0193f7bf306f521d3129737c4ed"), looks := false }, kinds := [], alts := [], laidByText := true, laidKinds := [.data, .data, .data], laidTests := true, laidLooks := .later }
def RoutesFindUptoCardSaid : Prop := Claim7.holds Tryd.pinned (.plain (OpenSpec.upto routesFindSpec)) routesFindUptoCard

/-- THE SECOND FORM's CARD OF 'transhipmentlaw09.RoutesNames'. -/
def routesNamesUptoCard : Claim7 := { stood := { row := routesNamesUptoRow, standIns := [], harness := (true, "b5e4bb69706a2fa27e4ccee94e6518bfb9c3b0193f7bf306f521d3129737c4ed"), looks := false }, kinds := [], alts := [], laidByText := true, laidKinds := [.data, .data, .data], laidTests := true, laidLooks := .later }
def RoutesNamesUptoCardSaid : Prop := Claim7.holds Tryd.pinned (.plain (OpenSpec.upto routesNamesSpec)) routesNamesUptoCard

/-- THE SECOND FORM's CARD OF 'transhipmentlaw09.RoutesLead'. -/
def routesLeadUptoCard : Claim7 := { stood := { row := routesLeadUptoRow, standIns := [], harness := (true, "b5e4bb69706a2fa27e4ccee94e6518bfb9c3b0193f7bf306f521d3129737c4ed"), looks := false }, kinds := [], alts := [], laidByText := true, laidKinds := [.data, .data, .data], laidTests := true, laidLooks := .later }
def RoutesLeadUptoCardSaid : Prop := Claim7.holds Tryd.pinned (.plain (OpenSpec.upto routesLeadSpec)) routesLeadUptoCard

/-- THE SECOND FORM's CARD OF 'transhipmentlaw09.RoutesMore'. -/
def routesMoreUptoCard : Claim7 := { stood := { row := routesMoreUptoRow, standIns := [], harness := (true, "b5e4bb69706a2fa27e4ccee94e6518bfb9c3b0193f7bf306f521d3129737c4ed"), looks := false }, kinds := [], alts := [], laidByText := true, laidKinds := [.data, .data, .data], laidTests := true, laidLooks := .later }
def RoutesMoreUptoCardSaid : Prop := Claim7.holds Tryd.pinned (.plain (OpenSpec.upto routesMoreSpec)) routesMoreUptoCard
end Rows
end Go.Proofs.YtdlhmjdjoadioabDoor
