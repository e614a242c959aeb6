/-
  DERIVED. GIVEN WITH THE SEED: THE CARDS: each row of YtdlhmjdjoadioacDoorRows.lean that lists a variable, with what it lists TIED to the program's text (the seventh form; the later family's looks); each row that meets fmt, with fmt's text TOLD by the authors' own Lean function (tested against real Go, not proved from fmt's source: count such statements apart). THE CARD IS WHAT COUNTS. Prove the row's statement (the work); the ties are given (YtdlhmjdjoadioacDoorTie.lean); close each card by the builder's one call (the guide's Derived/Test/ToyasCard.lean, 'card_holds'). Laid BY PROGRAM, IN A SANDBOX (cutbox-door.mjs). By AI agents, Wed Nov 11 2026. No macro, syntax, notation, axiom, sorry.
-/
import Derived.Test.YtdlhmjdjoadioacDoorRows
import GoSem.ClaimSeven
namespace Go.Proofs.YtdlhmjdjoadioacDoor
namespace Rows

/-- THE TIED CARD OF 'transhipmentlaw09.RoutesWalk'. -/
def routesWalkCard : Claim7 := { stood := { row := routesWalkRow, standIns := [], harness := (true, "7f910dee2e055f54b4b16a2aab8d792f68e44b77f56ac1fb9e60d1b4c6dc74b5"), looks := false }, kinds := [], alts := [], laidByText := true, laidKinds := [.data, .data, .data], laidTests := true, laidLooks := .later }
def RoutesWalkCardSaid : Prop := Claim7.holds Tryd.pinned (.plain (OpenSpec.ofChange routesWalkSpec)) routesWalkCard

/-- THE TIED CARD OF 'transhipmentlaw09.RoutesWithin'. -/
def routesWithinCard : Claim7 := { stood := { row := routesWithinRow, standIns := [], harness := (true, "7f910dee2e055f54b4b16a2aab8d792f68e44b77f56ac1fb9e60d1b4c6dc74b5"), looks := false }, kinds := [], alts := [], laidByText := true, laidKinds := [.data, .data, .data], laidTests := true, laidLooks := .later }
def RoutesWithinCardSaid : Prop := Claim7.holds Tryd.pinned (.plain (OpenSpec.ofChange routesWithinSpec)) routesWithinCard

/-- THE SECOND FORM's CARD OF 'transhipmentlaw09.RoutesWalk'. -/
def routesWalkUptoCard : Claim7 := { stood := { row := routesWalkUptoRow, standIns := [], harness := (true, "7f910dee2e055f54b4b16a2aab8d792f68e44b77f56ac1fb9e60d1b4c6dc74b5"), looks := false }, kinds := [], alts := [], laidByText := true, laidKinds := [.data, .data, .data], laidTests := true, laidLooks := .later }
def RoutesWalkUptoCardSaid : Prop := Claim7.holds Tryd.pinned (.plain (OpenSpec.upto routesWalkSpec)) routesWalkUptoCard

/-- THE SECOND FORM's CARD OF 'transhipmentlaw09.RoutesWithin'. -/
def routesWithinUptoCard : Claim7 := { stood := { row := routesWithinUptoRow, standIns := [], harness := (true, "7f910dee2e055f54b4b16a2aab8d792f68e44b77f56ac1fb9e60d1b4c6dc74b5"), looks := false }, kinds := [], alts := [], laidByText := true, laidKinds := [.data, .data, .data], laidTests := true, laidLooks := .later }
def RoutesWithinUptoCardSaid : Prop := Claim7.holds Tryd.pinned (.plain (OpenSpec.upto routesWithinSpec)) routesWithinUptoCard
end Rows
end Go.Proofs.YtdlhmjdjoadioacDoor
