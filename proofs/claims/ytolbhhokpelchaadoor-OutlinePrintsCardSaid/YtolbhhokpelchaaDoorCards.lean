/-
  DERIVED. GIVEN WITH THE SEED: THE CARDS: each row of YtolbhhokpelchaaDoorRows.lean that lists a variable, with what it lists TIED to the program's text (the seventh form; the later family's looks); each row that meets fmt, with fmt's text TOLD by the authors' own Lean function (tested against real Go, not proved from fmt's source: count such statements apart). THE CARD IS WHAT COUNTS. Prove the row's statement (the work); the ties are given (YtolbhhokpelchaaDoorTie.lean); close each card by the builder's one call (the guide's Derived/Test/ToyasCard.lean, 'card_holds'). Laid BY PROGRAM, IN A SANDBOX (cutbox-door.mjs). By AI agents, Wed Nov 11 2026. No macro, syntax, notation, axiom, sorry.
-/
import Derived.Test.YtolbhhokpelchaaDoorRows
import GoSem.ClaimSeven
namespace Go.Proofs.YtolbhhokpelchaaDoor
namespace Rows

/-- THE TIED CARD OF 'transhipmentlaw05.OutlinePrints'. -/
def outlinePrintsCard : Claim7 := { stood := { row := outlinePrintsRow, standIns := [], harness := (true, "a096779cc953c23348ef3756af848fdc6a5e25abb84cd4f2cb84160afc7d18d3"), looks := true }, kinds := [], alts := [], laidByText := true, laidKinds := [.data, .pinned], laidTests := true, laidLooks := .later }
def OutlinePrintsCardSaid : Prop := Claim7.holds Tryd.pinned (.plain (OpenSpec.ofChange outlinePrintsSpec)) outlinePrintsCard

/-- THE TIED CARD OF 'transhipmentlaw05.OutlineBack'. -/
def outlineBackCard : Claim7 := { stood := { row := outlineBackRow, standIns := [], harness := (true, "a096779cc953c23348ef3756af848fdc6a5e25abb84cd4f2cb84160afc7d18d3"), looks := true }, kinds := [], alts := [], laidByText := true, laidKinds := [.data, .pinned], laidTests := true, laidLooks := .later }
def OutlineBackCardSaid : Prop := Claim7.holds Tryd.pinned (.plain (OpenSpec.ofChange outlineBackSpec)) outlineBackCard

/-- THE TIED CARD OF 'transhipmentlaw05.OutlineNotes'. -/
def outlineNotesCard : Claim7 := { stood := { row := outlineNotesRow, standIns := [], harness := (true, "a096779cc953c23348ef3756af848fdc6a5e25abb84cd4f2cb84160afc7d18d3"), looks := true }, kinds := [], alts := [], laidByText := true, laidKinds := [.data, .pinned], laidTests := true, laidLooks := .later }
def OutlineNotesCardSaid : Prop := Claim7.holds Tryd.pinned (.plain (OpenSpec.ofChange outlineNotesSpec)) outlineNotesCard

/-- THE TIED CARD OF 'transhipmentlaw05.OutlineDeep'. -/
def outlineDeepCard : Claim7 := { stood := { row := outlineDeepRow, standIns := [], harness := (true, "a096779cc953c23348ef3756af848fdc6a5e25abb84cd4f2cb84160afc7d18d3"), looks := true }, kinds := [], alts := [], laidByText := true, laidKinds := [.data, .pinned], laidTests := true, laidLooks := .later }
def OutlineDeepCardSaid : Prop := Claim7.holds Tryd.pinned (.plain (OpenSpec.ofChange outlineDeepSpec)) outlineDeepCard

/-- THE TIED CARD OF 'transhipmentlaw05.OutlineWithin'. -/
def outlineWithinCard : Claim7 := { stood := { row := outlineWithinRow, standIns := [], harness := (true, "a096779cc953c23348ef3756af848fdc6a5e25abb84cd4f2cb84160afc7d18d3"), looks := true }, kinds := [], alts := [], laidByText := true, laidKinds := [.data, .pinned], laidTests := true, laidLooks := .later }
def OutlineWithinCardSaid : Prop := Claim7.holds Tryd.pinned (.plain (OpenSpec.ofChange outlineWithinSpec)) outlineWithinCard

/-- THE TIED CARD OF 'transhipmentlaw05.OutlineRows'. -/
def outlineRowsCard : Claim7 := { stood := { row := outlineRowsRow, standIns := [], harness := (true, "a096779cc953c23348ef3756af848fdc6a5e25abb84cd4f2cb84160afc7d18d3"), looks := true }, kinds := [], alts := [], laidByText := true, laidKinds := [.data, .pinned], laidTests := true, laidLooks := .later }
def OutlineRowsCardSaid : Prop := Claim7.holds Tryd.pinned (.plain (OpenSpec.ofChange outlineRowsSpec)) outlineRowsCard

/-- THE SECOND FORM's CARD OF 'transhipmentlaw05.OutlinePrints'. -/
def outlinePrintsUptoCard : Claim7 := { stood := { row := outlinePrintsUptoRow, standIns := [], harness := (true, "a096779cc953c23348ef3756af848fdc6a5e25abb84cd4f2cb84160afc7d18d3"), looks := true }, kinds := [], alts := [], laidByText := true, laidKinds := [.data, .pinned], laidTests := true, laidLooks := .later }
def OutlinePrintsUptoCardSaid : Prop := Claim7.holds Tryd.pinned (.plain (OpenSpec.upto outlinePrintsSpec)) outlinePrintsUptoCard

/-- THE SECOND FORM's CARD OF 'transhipmentlaw05.OutlineBack'. -/
def outlineBackUptoCard : Claim7 := { stood := { row := outlineBackUptoRow, standIns := [], harness := (true, "a096779cc953c23348ef3756af848fdc6a5e25abb84cd4f2cb84160afc7d18d3"), looks := true }, kinds := [], alts := [], laidByText := true, laidKinds := [.data, .pinned], laidTests := true, laidLooks := .later }
def OutlineBackUptoCardSaid : Prop := Claim7.holds Tryd.pinned (.plain (OpenSpec.upto outlineBackSpec)) outlineBackUptoCard

/-- THE SECOND FORM's CARD OF 'transhipmentlaw05.OutlineNotes'. -/
def outlineNotesUptoCard : Claim7 := { stood := { row := outlineNotesUptoRow, standIns := [], harness := (true, "a096779cc953c23348ef3756af848fdc6a5e25abb84cd4f2cb84160afc7d18d3"), looks := true }, kinds := [], alts := [], laidByText := true, laidKinds := [.data, .pinned], laidTests := true, laidLooks := .later }
def OutlineNotesUptoCardSaid : Prop := Claim7.holds Tryd.pinned (.plain (OpenSpec.upto outlineNotesSpec)) outlineNotesUptoCard

/-- THE SECOND FORM's CARD OF 'transhipmentlaw05.OutlineDeep'. -/
def outlineDeepUptoCard : Claim7 := { stood := { row := outlineDeepUptoRow, standIns := [], harness := (true, "a096779cc953c23348ef3756af848fdc6a5e25abb84cd4f2cb84160afc7d18d3"), looks := true }, kinds := [], alts := [], laidByText := true, laidKinds := [.data, .pinned], laidTests := true, laidLooks := .later }
def OutlineDeepUptoCardSaid : Prop := Claim7.holds Tryd.pinned (.plain (OpenSpec.upto outlineDeepSpec)) outlineDeepUptoCard

/-- THE SECOND FORM's CARD OF 'transhipmentlaw05.OutlineWithin'. -/
def outlineWithinUptoCard : Claim7 := { stood := { row := outlineWithinUptoRow, standIns := [], harness := (true, "a096779cc953c23348ef3756af848fdc6a5e25abb84cd4f2cb84160afc7d18d3"), looks := true }, kinds := [], alts := [], laidByText := true, laidKinds := [.data, .pinned], laidTests := true, laidLooks := .later }
def OutlineWithinUptoCardSaid : Prop := Claim7.holds Tryd.pinned (.plain (OpenSpec.upto outlineWithinSpec)) outlineWithinUptoCard

/-- THE SECOND FORM's CARD OF 'transhipmentlaw05.OutlineRows'. -/
def outlineRowsUptoCard : Claim7 := { stood := { row := outlineRowsUptoRow, standIns := [], harness := (true, "a096779cc953c23348ef3756af848fdc6a5e25abb84cd4f2cb84160afc7d18d3"), looks := true }, kinds := [], alts := [], laidByText := true, laidKinds := [.data, .pinned], laidTests := true, laidLooks := .later }
def OutlineRowsUptoCardSaid : Prop := Claim7.holds Tryd.pinned (.plain (OpenSpec.upto outlineRowsSpec)) outlineRowsUptoCard
end Rows
end Go.Proofs.YtolbhhokpelchaaDoor
