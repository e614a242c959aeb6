/-
  DERIVED. GIVEN WITH THE SEED: THE CARDS: each row of YtjigdmmlgddgpabDoorRows.lean that lists a variable, with what it lists TIED to the program's text (the seventh form; the later family's looks); each row that meets fmt, with fmt's text TOLD by the authors' own Lean function (tested against real Go, not proved from fmt's source: count such statements apart). THE CARD IS WHAT COUNTS. Prove the row's statement (the work); the ties are given (YtjigdmmlgddgpabDoorTie.lean); close each card by the builder's one call (the guide's Derived/Test/ToyasCard.lean, 'card_holds'). Laid BY PROGRAM, IN A SANDBOX (cutbox-door.mjs). By AI agents, Wed Nov 11 2026. No macro, syntax, notation, axiom, sorry.
-/
import Derived.Test.YtjigdmmlgddgpabDoorRows
import GoSem.ClaimSeven
namespace Go.Proofs.YtjigdmmlgddgpabDoor
namespace Rows

/-- THE TIED CARD OF 'transhipmentlaw08.RulesApart'. -/
def rulesApartCard : Claim7 := { stood := { row := rulesApartRow, standIns := [], harness := (true, "df16289f8a81c330ba2cc6c6a8f103edd29211cf1369f94ec5a8f4a806fbb8af"), looks := false }, kinds := [], alts := [], laidByText := true, laidKinds := [.data, .data, .data], laidTests := true, laidLooks := .later }
def RulesApartCardSaid : Prop := Claim7.holds Tryd.pinned (.plain (OpenSpec.ofChange rulesApartSpec)) rulesApartCard

/-- THE SECOND FORM's CARD OF 'transhipmentlaw08.RulesApart'. -/
def rulesApartUptoCard : Claim7 := { stood := { row := rulesApartUptoRow, standIns := [], harness := (true, "df16289f8a81c330ba2cc6c6a8f103edd29211cf1369f94ec5a8f4a806fbb8af"), looks := false }, kinds := [], alts := [], laidByText := true, laidKinds := [.data, .data, .data], laidTests := true, laidLooks := .later }
def RulesApartUptoCardSaid : Prop := Claim7.holds Tryd.pinned (.plain (OpenSpec.upto rulesApartSpec)) rulesApartUptoCard
end Rows
end Go.Proofs.YtjigdmmlgddgpabDoor
