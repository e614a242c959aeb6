/-
  NARROWER THAN 'FOR EVERY INPUT', by the rows' own cells (each row's printed sentence says how): OutlinePrints: loops, laid · OutlineBack: loops, laid · OutlineNotes: laid · OutlineDeep: loops, laid · OutlineWithin: loops, laid · OutlineRows: laid.
  DERIVED. THE GIVEN ROWS OF THIS SEAT. 6 by the template 'for every input the law returns true; each argument reads behind the call as it read before'; 0 by the template 'total and deterministic' (their statements: YtolbhhokpelchaaDoorTotals.lean).
  GIVEN WITH THE SEED: the statements are not yours to turn. If you find one false, say at which input.
  Laid BY PROGRAM, IN A SANDBOX (cutbox-rows.mjs): the forced cells as the released guide's own fill.sh prints them over the translation a8574b229a9fa8e0… (all of the seat's roots in one cut). By AI agents, Wed Nov 11 2026. No macro, syntax, notation, axiom, sorry.
-/
import Derived.Test.YtolbhhokpelchaaDoorChecked
import GoSem.PinnedTables
import GoSem.Claim
import GoSem.ClaimJoined
import GoSem.ClaimMapViews
import Derived.JoinedTies
import Derived.KernelRfl
namespace Go.Proofs.YtolbhhokpelchaaDoor
/- THE CELL 'sum', in the pinned program and in every row, IS THE sha256 OF THE DUMP (.gsa) THAT YtolbhhokpelchaaDoorProg.lean LOADS. Nothing in Lean hashes anything: it is a label: what it is worth is what the hold of that sum in a sandbox is worth. -/
noncomputable def Tryd.pinned : Pinned := { name := "ytolbhhokpelchaadoor", sum := "a8574b229a9fa8e0b00c7eb6c48f857d4f538a18f33d143a9238bbb4c0df3e4a", checked := Tryd.checked }
namespace Rows
def none {H : Type} : Left H := { results := [], args := [] }

/- WHAT THE LISTED PACKAGE-LEVEL VARIABLES READ AS WHEN THE CALL BEGINS. Each datum BY PROGRAM (the guide's laid-datum.mjs) off the statement by which the dump's own 'gosem.cut.vars' lays the variable. In a bare row this is a premise. The card (YtolbhhokpelchaaDoorCards.lean) ties it to the program's text. -/
def laid_unicode_utf8_acceptRanges {H : Type} : DataW H := .agg [.agg [.lit (.int .u8 128), .lit (.int .u8 191)], .agg [.lit (.int .u8 160), .lit (.int .u8 191)], .agg [.lit (.int .u8 128), .lit (.int .u8 159)], .agg [.lit (.int .u8 144), .lit (.int .u8 191)], .agg [.lit (.int .u8 128), .lit (.int .u8 143)], .agg [.lit (.int .u8 0), .lit (.int .u8 0)], .agg [.lit (.int .u8 0), .lit (.int .u8 0)], .agg [.lit (.int .u8 0), .lit (.int .u8 0)], .agg [.lit (.int .u8 0), .lit (.int .u8 0)], .agg [.lit (.int .u8 0), .lit (.int .u8 0)], .agg [.lit (.int .u8 0), .lit (.int .u8 0)], .agg [.lit (.int .u8 0), .lit (.int .u8 0)], .agg [.lit (.int .u8 0), .lit (.int .u8 0)], .agg [.lit (.int .u8 0), .lit (.int .u8 0)], .agg [.lit (.int .u8 0), .lit (.int .u8 0)], .agg [.lit (.int .u8 0), .lit (.int .u8 0)]]
/-- One of Go's own tables, pinned by name: the form's constant. -/
def laid_unicode_utf8_first : DataW Unit := Go.Pinned.utf8First

/-- 'transhipmentlaw05.OutlinePrints': WHATEVER THE INPUT: true; the input reads as it did. -/
def outlinePrintsSpec : ChangeSpec := { name := "outlinePrints", fn := fun _ => fun
  | [d1, d2] => { results := [.lit (.bool true)], args := [d1, d2] }
  | _ => none }
def outlinePrintsRow : OpenClaim := { program := "ytolbhhokpelchaadoor", sum := "a8574b229a9fa8e0b00c7eb6c48f857d4f538a18f33d143a9238bbb4c0df3e4a", func := "transhipment/transhipmentlaw05.OutlinePrints", spec := "outlinePrints", inPlace := ["internal/bytealg.IndexByteString", "internal/bytealg.IndexString", "internal/abi.NoEscape", "internal/bytealg.MakeNoZero"], unfollowed := true, recurses := true, named := ["internal/bytealg.MaxLen", "unicode/utf8.first", "unicode/utf8.acceptRanges"], loops := true, apart := false, laid := [("unicode/utf8.acceptRanges", laid_unicode_utf8_acceptRanges), ("unicode/utf8.first", laid_unicode_utf8_first)] }
def OutlinePrintsSaid : Prop := outlinePrintsRow.holds Tryd.pinned (OpenSpec.ofChange outlinePrintsSpec)

/-- ITS FALSE NEIGHBOUR: 'it returns false'. Refute it at one input. -/
def outlinePrintsWrong : ChangeSpec := { name := "outlinePrints", fn := fun _ => fun
  | [d1, d2] => { results := [.lit (.bool false)], args := [d1, d2] }
  | _ => none }
def OutlinePrintsWrongFalsely : Prop := outlinePrintsRow.holds Tryd.pinned (OpenSpec.ofChange outlinePrintsWrong)

/-- 'transhipmentlaw05.OutlineBack': WHATEVER THE INPUT: true; the input reads as it did. -/
def outlineBackSpec : ChangeSpec := { name := "outlineBack", fn := fun _ => fun
  | [d1, d2] => { results := [.lit (.bool true)], args := [d1, d2] }
  | _ => none }
def outlineBackRow : OpenClaim := { program := "ytolbhhokpelchaadoor", sum := "a8574b229a9fa8e0b00c7eb6c48f857d4f538a18f33d143a9238bbb4c0df3e4a", func := "transhipment/transhipmentlaw05.OutlineBack", spec := "outlineBack", inPlace := ["internal/bytealg.IndexByteString", "internal/bytealg.IndexString", "internal/abi.NoEscape", "internal/bytealg.MakeNoZero", "internal/bytealg.CountString"], unfollowed := true, recurses := true, named := ["internal/bytealg.MaxLen", "unicode/utf8.first", "unicode/utf8.acceptRanges"], loops := true, apart := false, laid := [("unicode/utf8.acceptRanges", laid_unicode_utf8_acceptRanges), ("unicode/utf8.first", laid_unicode_utf8_first)] }
def OutlineBackSaid : Prop := outlineBackRow.holds Tryd.pinned (OpenSpec.ofChange outlineBackSpec)

/-- ITS FALSE NEIGHBOUR: 'it returns false'. Refute it at one input. -/
def outlineBackWrong : ChangeSpec := { name := "outlineBack", fn := fun _ => fun
  | [d1, d2] => { results := [.lit (.bool false)], args := [d1, d2] }
  | _ => none }
def OutlineBackWrongFalsely : Prop := outlineBackRow.holds Tryd.pinned (OpenSpec.ofChange outlineBackWrong)

/-- 'transhipmentlaw05.OutlineNotes': WHATEVER THE INPUT: true; the input reads as it did. -/
def outlineNotesSpec : ChangeSpec := { name := "outlineNotes", fn := fun _ => fun
  | [d1, d2, d3] => { results := [.lit (.bool true)], args := [d1, d2, d3] }
  | _ => none }
def outlineNotesRow : OpenClaim := { program := "ytolbhhokpelchaadoor", sum := "a8574b229a9fa8e0b00c7eb6c48f857d4f538a18f33d143a9238bbb4c0df3e4a", func := "transhipment/transhipmentlaw05.OutlineNotes", spec := "outlineNotes", inPlace := ["internal/bytealg.IndexByteString", "internal/bytealg.IndexString", "internal/bytealg.CountString", "internal/abi.NoEscape", "internal/bytealg.MakeNoZero"], unfollowed := true, recurses := true, named := ["internal/bytealg.MaxLen", "unicode/utf8.first", "unicode/utf8.acceptRanges"], apart := false, laid := [("unicode/utf8.acceptRanges", laid_unicode_utf8_acceptRanges), ("unicode/utf8.first", laid_unicode_utf8_first)] }
def OutlineNotesSaid : Prop := outlineNotesRow.holds Tryd.pinned (OpenSpec.ofChange outlineNotesSpec)

/-- ITS FALSE NEIGHBOUR: 'it returns false'. Refute it at one input. -/
def outlineNotesWrong : ChangeSpec := { name := "outlineNotes", fn := fun _ => fun
  | [d1, d2, d3] => { results := [.lit (.bool false)], args := [d1, d2, d3] }
  | _ => none }
def OutlineNotesWrongFalsely : Prop := outlineNotesRow.holds Tryd.pinned (OpenSpec.ofChange outlineNotesWrong)

/-- 'transhipmentlaw05.OutlineDeep': WHATEVER THE INPUT: true; the input reads as it did. -/
def outlineDeepSpec : ChangeSpec := { name := "outlineDeep", fn := fun _ => fun
  | [d1, d2, d3] => { results := [.lit (.bool true)], args := [d1, d2, d3] }
  | _ => none }
def outlineDeepRow : OpenClaim := { program := "ytolbhhokpelchaadoor", sum := "a8574b229a9fa8e0b00c7eb6c48f857d4f538a18f33d143a9238bbb4c0df3e4a", func := "transhipment/transhipmentlaw05.OutlineDeep", spec := "outlineDeep", inPlace := ["internal/bytealg.IndexByteString", "internal/bytealg.IndexString"], unfollowed := true, recurses := true, named := ["internal/bytealg.MaxLen", "unicode/utf8.first", "unicode/utf8.acceptRanges"], loops := true, apart := false, laid := [("unicode/utf8.acceptRanges", laid_unicode_utf8_acceptRanges), ("unicode/utf8.first", laid_unicode_utf8_first)] }
def OutlineDeepSaid : Prop := outlineDeepRow.holds Tryd.pinned (OpenSpec.ofChange outlineDeepSpec)

/-- ITS FALSE NEIGHBOUR: 'it returns false'. Refute it at one input. -/
def outlineDeepWrong : ChangeSpec := { name := "outlineDeep", fn := fun _ => fun
  | [d1, d2, d3] => { results := [.lit (.bool false)], args := [d1, d2, d3] }
  | _ => none }
def OutlineDeepWrongFalsely : Prop := outlineDeepRow.holds Tryd.pinned (OpenSpec.ofChange outlineDeepWrong)

/-- 'transhipmentlaw05.OutlineWithin': WHATEVER THE INPUT: true; the input reads as it did. -/
def outlineWithinSpec : ChangeSpec := { name := "outlineWithin", fn := fun _ => fun
  | [d1, d2] => { results := [.lit (.bool true)], args := [d1, d2] }
  | _ => none }
def outlineWithinRow : OpenClaim := { program := "ytolbhhokpelchaadoor", sum := "a8574b229a9fa8e0b00c7eb6c48f857d4f538a18f33d143a9238bbb4c0df3e4a", func := "transhipment/transhipmentlaw05.OutlineWithin", spec := "outlineWithin", inPlace := ["internal/bytealg.IndexByteString", "internal/bytealg.IndexString", "internal/abi.NoEscape", "internal/bytealg.MakeNoZero"], unfollowed := true, recurses := true, named := ["internal/bytealg.MaxLen", "unicode/utf8.first", "unicode/utf8.acceptRanges"], loops := true, apart := false, laid := [("unicode/utf8.acceptRanges", laid_unicode_utf8_acceptRanges), ("unicode/utf8.first", laid_unicode_utf8_first)] }
def OutlineWithinSaid : Prop := outlineWithinRow.holds Tryd.pinned (OpenSpec.ofChange outlineWithinSpec)

/-- ITS FALSE NEIGHBOUR: 'it returns false'. Refute it at one input. -/
def outlineWithinWrong : ChangeSpec := { name := "outlineWithin", fn := fun _ => fun
  | [d1, d2] => { results := [.lit (.bool false)], args := [d1, d2] }
  | _ => none }
def OutlineWithinWrongFalsely : Prop := outlineWithinRow.holds Tryd.pinned (OpenSpec.ofChange outlineWithinWrong)

/-- 'transhipmentlaw05.OutlineRows': WHATEVER THE INPUT: true; the input reads as it did. -/
def outlineRowsSpec : ChangeSpec := { name := "outlineRows", fn := fun _ => fun
  | [d] => { results := [.lit (.bool true)], args := [d] }
  | _ => none }
def outlineRowsRow : OpenClaim := { program := "ytolbhhokpelchaadoor", sum := "a8574b229a9fa8e0b00c7eb6c48f857d4f538a18f33d143a9238bbb4c0df3e4a", func := "transhipment/transhipmentlaw05.OutlineRows", spec := "outlineRows", inPlace := ["internal/abi.NoEscape", "internal/bytealg.MakeNoZero", "internal/bytealg.IndexByteString", "internal/bytealg.IndexString", "internal/bytealg.CountString"], unfollowed := true, recurses := true, named := ["internal/bytealg.MaxLen", "unicode/utf8.first", "unicode/utf8.acceptRanges"], apart := false, laid := [("unicode/utf8.acceptRanges", laid_unicode_utf8_acceptRanges), ("unicode/utf8.first", laid_unicode_utf8_first)] }
def OutlineRowsSaid : Prop := outlineRowsRow.holds Tryd.pinned (OpenSpec.ofChange outlineRowsSpec)

/-- ITS FALSE NEIGHBOUR: 'it returns false'. Refute it at one input. -/
def outlineRowsWrong : ChangeSpec := { name := "outlineRows", fn := fun _ => fun
  | [d] => { results := [.lit (.bool false)], args := [d] }
  | _ => none }
def OutlineRowsWrongFalsely : Prop := outlineRowsRow.holds Tryd.pinned (OpenSpec.ofChange outlineRowsWrong)

/- THE SECOND FORM. 'bulk': how many values and letters a reading holds, each counted each time it is reached (what is shared counts as often as it is met; a slice's spare places count too). A statement '..UptoSaid' is the law's where the arguments, and the package variables that the reading takes, are together of bulk at most 1048576: NARROWER than '..Said'. Prove '..Said' where nothing that the law and all that it calls make is longer than what came in: it says more and counts as full. Else prove '..UptoSaid'. A law counts once. -/
mutual
def uptoBulk {H : Type} : DataW H → Nat
  | .lit (.string bytes) => bytes.length + 1
  | .lit _ => 1
  | .nil => 1
  | .ptr d => uptoBulk d + 1
  | .slice elems spare => uptoBulkAll elems + uptoBulkAll spare + 1
  | .agg parts => uptoBulkAll parts + 1
  | .iface _ d => uptoBulk d + 1
  | .map entries => uptoBulkEntries entries + 1
  | .held _ => 1
def uptoBulkAll {H : Type} : List (DataW H) → Nat
  | [] => 0
  | d :: r => uptoBulk d + uptoBulkAll r
def uptoBulkEntries {H : Type} : List (Lit × DataW H) → Nat
  | [] => 0
  | x :: r => uptoBulkEntry x + uptoBulkEntries r
def uptoBulkEntry {H : Type} : Lit × DataW H → Nat
  | (.string bytes, d) => bytes.length + uptoBulk d + 1
  | (_, d) => uptoBulk d + 1
 end
def uptoSmall : (H : Type) → List (DataW H) → Bool := fun _ ds => decide (uptoBulkAll ds ≤ 1048576)
def OpenSpec.upto (s : _root_.Go.ChangeSpec) : _root_.Go.OpenSpec := { _root_.Go.OpenSpec.ofChange s with cond := some uptoSmall }

/-- 'transhipmentlaw05.OutlinePrints', WHERE WHAT IT READS IS OF BULK AT MOST 1048576: true; the input reads as it did. -/
def outlinePrintsUptoRow : OpenClaim := { program := "ytolbhhokpelchaadoor", sum := "a8574b229a9fa8e0b00c7eb6c48f857d4f538a18f33d143a9238bbb4c0df3e4a", func := "transhipment/transhipmentlaw05.OutlinePrints", spec := "outlinePrints", inPlace := ["internal/bytealg.IndexByteString", "internal/bytealg.IndexString", "internal/abi.NoEscape", "internal/bytealg.MakeNoZero"], unfollowed := true, recurses := true, named := ["internal/bytealg.MaxLen", "unicode/utf8.first", "unicode/utf8.acceptRanges"], loops := true, apart := false, laid := [("unicode/utf8.acceptRanges", laid_unicode_utf8_acceptRanges), ("unicode/utf8.first", laid_unicode_utf8_first)], narrowed := true }
def OutlinePrintsUptoSaid : Prop := outlinePrintsUptoRow.holds Tryd.pinned (OpenSpec.upto outlinePrintsSpec)

/-- 'transhipmentlaw05.OutlineBack', WHERE WHAT IT READS IS OF BULK AT MOST 1048576: true; the input reads as it did. -/
def outlineBackUptoRow : OpenClaim := { program := "ytolbhhokpelchaadoor", sum := "a8574b229a9fa8e0b00c7eb6c48f857d4f538a18f33d143a9238bbb4c0df3e4a", func := "transhipment/transhipmentlaw05.OutlineBack", spec := "outlineBack", inPlace := ["internal/bytealg.IndexByteString", "internal/bytealg.IndexString", "internal/abi.NoEscape", "internal/bytealg.MakeNoZero", "internal/bytealg.CountString"], unfollowed := true, recurses := true, named := ["internal/bytealg.MaxLen", "unicode/utf8.first", "unicode/utf8.acceptRanges"], loops := true, apart := false, laid := [("unicode/utf8.acceptRanges", laid_unicode_utf8_acceptRanges), ("unicode/utf8.first", laid_unicode_utf8_first)], narrowed := true }
def OutlineBackUptoSaid : Prop := outlineBackUptoRow.holds Tryd.pinned (OpenSpec.upto outlineBackSpec)

/-- 'transhipmentlaw05.OutlineNotes', WHERE WHAT IT READS IS OF BULK AT MOST 1048576: true; the input reads as it did. -/
def outlineNotesUptoRow : OpenClaim := { program := "ytolbhhokpelchaadoor", sum := "a8574b229a9fa8e0b00c7eb6c48f857d4f538a18f33d143a9238bbb4c0df3e4a", func := "transhipment/transhipmentlaw05.OutlineNotes", spec := "outlineNotes", inPlace := ["internal/bytealg.IndexByteString", "internal/bytealg.IndexString", "internal/bytealg.CountString", "internal/abi.NoEscape", "internal/bytealg.MakeNoZero"], unfollowed := true, recurses := true, named := ["internal/bytealg.MaxLen", "unicode/utf8.first", "unicode/utf8.acceptRanges"], apart := false, laid := [("unicode/utf8.acceptRanges", laid_unicode_utf8_acceptRanges), ("unicode/utf8.first", laid_unicode_utf8_first)], narrowed := true }
def OutlineNotesUptoSaid : Prop := outlineNotesUptoRow.holds Tryd.pinned (OpenSpec.upto outlineNotesSpec)

/-- 'transhipmentlaw05.OutlineDeep', WHERE WHAT IT READS IS OF BULK AT MOST 1048576: true; the input reads as it did. -/
def outlineDeepUptoRow : OpenClaim := { program := "ytolbhhokpelchaadoor", sum := "a8574b229a9fa8e0b00c7eb6c48f857d4f538a18f33d143a9238bbb4c0df3e4a", func := "transhipment/transhipmentlaw05.OutlineDeep", spec := "outlineDeep", inPlace := ["internal/bytealg.IndexByteString", "internal/bytealg.IndexString"], unfollowed := true, recurses := true, named := ["internal/bytealg.MaxLen", "unicode/utf8.first", "unicode/utf8.acceptRanges"], loops := true, apart := false, laid := [("unicode/utf8.acceptRanges", laid_unicode_utf8_acceptRanges), ("unicode/utf8.first", laid_unicode_utf8_first)], narrowed := true }
def OutlineDeepUptoSaid : Prop := outlineDeepUptoRow.holds Tryd.pinned (OpenSpec.upto outlineDeepSpec)

/-- 'transhipmentlaw05.OutlineWithin', WHERE WHAT IT READS IS OF BULK AT MOST 1048576: true; the input reads as it did. -/
def outlineWithinUptoRow : OpenClaim := { program := "ytolbhhokpelchaadoor", sum := "a8574b229a9fa8e0b00c7eb6c48f857d4f538a18f33d143a9238bbb4c0df3e4a", func := "transhipment/transhipmentlaw05.OutlineWithin", spec := "outlineWithin", inPlace := ["internal/bytealg.IndexByteString", "internal/bytealg.IndexString", "internal/abi.NoEscape", "internal/bytealg.MakeNoZero"], unfollowed := true, recurses := true, named := ["internal/bytealg.MaxLen", "unicode/utf8.first", "unicode/utf8.acceptRanges"], loops := true, apart := false, laid := [("unicode/utf8.acceptRanges", laid_unicode_utf8_acceptRanges), ("unicode/utf8.first", laid_unicode_utf8_first)], narrowed := true }
def OutlineWithinUptoSaid : Prop := outlineWithinUptoRow.holds Tryd.pinned (OpenSpec.upto outlineWithinSpec)

/-- 'transhipmentlaw05.OutlineRows', WHERE WHAT IT READS IS OF BULK AT MOST 1048576: true; the input reads as it did. -/
def outlineRowsUptoRow : OpenClaim := { program := "ytolbhhokpelchaadoor", sum := "a8574b229a9fa8e0b00c7eb6c48f857d4f538a18f33d143a9238bbb4c0df3e4a", func := "transhipment/transhipmentlaw05.OutlineRows", spec := "outlineRows", inPlace := ["internal/abi.NoEscape", "internal/bytealg.MakeNoZero", "internal/bytealg.IndexByteString", "internal/bytealg.IndexString", "internal/bytealg.CountString"], unfollowed := true, recurses := true, named := ["internal/bytealg.MaxLen", "unicode/utf8.first", "unicode/utf8.acceptRanges"], apart := false, laid := [("unicode/utf8.acceptRanges", laid_unicode_utf8_acceptRanges), ("unicode/utf8.first", laid_unicode_utf8_first)], narrowed := true }
def OutlineRowsUptoSaid : Prop := outlineRowsUptoRow.holds Tryd.pinned (OpenSpec.upto outlineRowsSpec)

end Rows
end Go.Proofs.YtolbhhokpelchaaDoor
