/-
  DERIVED. GIVEN WITH THE SEED: THE CARDS: each row of YtkgnapojkijbgaaGreatDoorRows.lean that lists a variable, with what it lists TIED to the program's text (the seventh form; the later family's looks); each row that meets fmt, with fmt's text TOLD by the authors' own Lean function (tested against real Go, not proved from fmt's source: count such statements apart). THE CARD IS WHAT COUNTS. Prove the row's statement (the work); the ties are given (YtkgnapojkijbgaaGreatDoorTie.lean); close each card by the builder's one call (the guide's Derived/Test/ToyasCard.lean, 'card_holds'). Laid BY PROGRAM, IN A SANDBOX (cutbox-door.mjs). By AI agents, Wed Nov 11 2026. No macro, syntax, notation, axiom, sorry.
-/
import Derived.Test.YtkgnapojkijbgaaGreatDoorRows
import GoSem.ClaimSeven
namespace Go.Proofs.YtkgnapojkijbgaaGreatDoor
namespace Rows

/-- THE TIED CARD OF 'transhipmentlaw10.ConfigTexts'. -/
def configTextsCard : Claim7 := { stood := { row := configTextsRow, standIns := [], harness := (true, "fa0eef0ea39b93e7e0a782f362aba1b5897234595c6d3e2ac8b13831fc6fbcee"), looks := false }, kinds := [], alts := [], laidByText := true, laidKinds := [.data, .data, .data, .data, .data, .data], laidTests := true, laidLooks := .later }
def ConfigTextsCardSaid : Prop := Claim7.holds Tryz.pinned (.plain (OpenSpec.ofChange configTextsSpec)) configTextsCard

/-- THE TIED CARD OF 'transhipmentlaw10.ConfigOrders'. -/
def configOrdersCard : Claim7 := { stood := { row := configOrdersRow, standIns := [], harness := (true, "fa0eef0ea39b93e7e0a782f362aba1b5897234595c6d3e2ac8b13831fc6fbcee"), looks := false }, kinds := [], alts := [], laidByText := true, laidKinds := [.data, .data, .data, .data], laidTests := true, laidLooks := .later }
def ConfigOrdersCardSaid : Prop := Claim7.holds Tryz.pinned (.plain (OpenSpec.ofChange configOrdersSpec)) configOrdersCard

/-- THE TIED CARD OF 'transhipmentlaw10.ConfigApart'. -/
def configApartCard : Claim7 := { stood := { row := configApartRow, standIns := [], harness := (true, "fa0eef0ea39b93e7e0a782f362aba1b5897234595c6d3e2ac8b13831fc6fbcee"), looks := false }, kinds := [], alts := [], laidByText := true, laidKinds := [.data, .data, .data, .data, .data, .data], laidTests := true, laidLooks := .later }
def ConfigApartCardSaid : Prop := Claim7.holds Tryz.pinned (.plain (OpenSpec.ofChange configApartSpec)) configApartCard

/-- THE TIED CARD OF 'transhipmentlaw10.ConfigMarks'. -/
def configMarksCard : Claim7 := { stood := { row := configMarksRow, standIns := [], harness := (true, "fa0eef0ea39b93e7e0a782f362aba1b5897234595c6d3e2ac8b13831fc6fbcee"), looks := false }, kinds := [], alts := [], laidByText := true, laidKinds := [.data, .data, .data, .data, .data, .data], laidTests := true, laidLooks := .later }
def ConfigMarksCardSaid : Prop := Claim7.holds Tryz.pinned (.plain (OpenSpec.ofChange configMarksSpec)) configMarksCard

/-- THE SECOND FORM's CARD OF 'transhipmentlaw10.ConfigTexts'. -/
def configTextsUptoCard : Claim7 := { stood := { row := configTextsUptoRow, standIns := [], harness := (true, "fa0eef0ea39b93e7e0a782f362aba1b5897234595c6d3e2ac8b13831fc6fbcee"), looks := false }, kinds := [], alts := [], laidByText := true, laidKinds := [.data, .data, .data, .data, .data, .data], laidTests := true, laidLooks := .later }
def ConfigTextsUptoCardSaid : Prop := Claim7.holds Tryz.pinned (.plain (OpenSpec.upto configTextsSpec)) configTextsUptoCard

/-- THE SECOND FORM's CARD OF 'transhipmentlaw10.ConfigOrders'. -/
def configOrdersUptoCard : Claim7 := { stood := { row := configOrdersUptoRow, standIns := [], harness := (true, "fa0eef0ea39b93e7e0a782f362aba1b5897234595c6d3e2ac8b13831fc6fbcee"), looks := false }, kinds := [], alts := [], laidByText := true, laidKinds := [.data, .data, .data, .data], laidTests := true, laidLooks := .later }
def ConfigOrdersUptoCardSaid : Prop := Claim7.holds Tryz.pinned (.plain (OpenSpec.upto configOrdersSpec)) configOrdersUptoCard

/-- THE SECOND FORM's CARD OF 'transhipmentlaw10.ConfigApart'. -/
def configApartUptoCard : Claim7 := { stood := { row := configApartUptoRow, standIns := [], harness := (true, "fa0eef0ea39b93e7e0a782f362aba1b5897234595c6d3e2ac8b13831fc6fbcee"), looks := false }, kinds := [], alts := [], laidByText := true, laidKinds := [.data, .data, .data, .data, .data, .data], laidTests := true, laidLooks := .later }
def ConfigApartUptoCardSaid : Prop := Claim7.holds Tryz.pinned (.plain (OpenSpec.upto configApartSpec)) configApartUptoCard

/-- THE SECOND FORM's CARD OF 'transhipmentlaw10.ConfigMarks'. -/
def configMarksUptoCard : Claim7 := { stood := { row := configMarksUptoRow, standIns := [], harness := (true, "fa0eef0ea39b93e7e0a782f362aba1b5897234595c6d3e2ac8b13831fc6fbcee"), looks := false }, kinds := [], alts := [], laidByText := true, laidKinds := [.data, .data, .data, .data, .data, .data], laidTests := true, laidLooks := .later }
def ConfigMarksUptoCardSaid : Prop := Claim7.holds Tryz.pinned (.plain (OpenSpec.upto configMarksSpec)) configMarksUptoCard
end Rows
end Go.Proofs.YtkgnapojkijbgaaGreatDoor
