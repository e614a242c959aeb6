/-
  No cell of these rows narrows 'for every input' (looked for: loops, veiled, ifaces, maps, wideKeys, modest, calm, conditions, laid).
  DERIVED. THE GIVEN ROWS OF THIS SEAT. 3 by the template 'for every input the law returns true; each argument reads behind the call as it read before'; 0 by the template 'total and deterministic' (their statements: YtjigdmmlgddgpabTotals.lean).
  GIVEN WITH THE SEED: the statements are not yours to turn. If you find one false, say at which input.
  Laid BY PROGRAM, IN A SANDBOX (cutbox-rows.mjs): the forced cells as the released guide's own fill.sh prints them over the translation 66af6d8a025bcf20… (all of the seat's roots in one cut). By AI agents, Wed Nov 11 2026. No macro, syntax, notation, axiom, sorry.
-/
import Derived.Test.YtjigdmmlgddgpabChecked
import GoSem.Claim
import GoSem.ClaimJoined
import GoSem.ClaimMapViews
import Derived.JoinedTies
import Derived.KernelRfl
namespace Go.Proofs.Ytjigdmmlgddgpab
/- THE CELL 'sum', in the pinned program and in every row, IS THE sha256 OF THE DUMP (.gsa) THAT YtjigdmmlgddgpabProg.lean LOADS. Nothing in Lean hashes anything: it is a label: what it is worth is what the hold of that sum in a sandbox is worth. -/
noncomputable def Try.pinned : Pinned := { name := "ytjigdmmlgddgpab", sum := "66af6d8a025bcf20b728aed0c6ca66874967aef6e8eb9db99e045233757195d3", checked := Try.checked }
namespace Rows
def none {H : Type} : Left H := { results := [], args := [] }

/-- 'transhipmentlaw08.RulesFire': WHATEVER THE INPUT: true; the input reads as it did. -/
def rulesFireSpec : ChangeSpec := { name := "rulesFire", fn := fun _ => fun
  | [d1, d2, d3, d4] => { results := [.lit (.bool true)], args := [d1, d2, d3, d4] }
  | _ => none }
def rulesFireRow : OpenClaim := { program := "ytjigdmmlgddgpab", sum := "66af6d8a025bcf20b728aed0c6ca66874967aef6e8eb9db99e045233757195d3", func := "transhipment/transhipmentlaw08.RulesFire", spec := "rulesFire", inPlace := ["internal/bytealg.abigen_runtime_cmpstring"], unfollowed := true, recurses := true, apart := false }
def RulesFireSaid : Prop := rulesFireRow.holds Try.pinned (OpenSpec.ofChange rulesFireSpec)

/-- ITS FALSE NEIGHBOUR: 'it returns false'. Refute it at one input. -/
def rulesFireWrong : ChangeSpec := { name := "rulesFire", fn := fun _ => fun
  | [d1, d2, d3, d4] => { results := [.lit (.bool false)], args := [d1, d2, d3, d4] }
  | _ => none }
def RulesFireWrongFalsely : Prop := rulesFireRow.holds Try.pinned (OpenSpec.ofChange rulesFireWrong)

/-- 'transhipmentlaw08.RulesOppose': WHATEVER THE INPUT: true; the input reads as it did. -/
def rulesOpposeSpec : ChangeSpec := { name := "rulesOppose", fn := fun _ => fun
  | [d1, d2] => { results := [.lit (.bool true)], args := [d1, d2] }
  | _ => none }
def rulesOpposeRow : OpenClaim := { program := "ytjigdmmlgddgpab", sum := "66af6d8a025bcf20b728aed0c6ca66874967aef6e8eb9db99e045233757195d3", func := "transhipment/transhipmentlaw08.RulesOppose", spec := "rulesOppose", inPlace := ["internal/bytealg.abigen_runtime_cmpstring"], unfollowed := true, recurses := true, apart := false }
def RulesOpposeSaid : Prop := rulesOpposeRow.holds Try.pinned (OpenSpec.ofChange rulesOpposeSpec)

/-- ITS FALSE NEIGHBOUR: 'it returns false'. Refute it at one input. -/
def rulesOpposeWrong : ChangeSpec := { name := "rulesOppose", fn := fun _ => fun
  | [d1, d2] => { results := [.lit (.bool false)], args := [d1, d2] }
  | _ => none }
def RulesOpposeWrongFalsely : Prop := rulesOpposeRow.holds Try.pinned (OpenSpec.ofChange rulesOpposeWrong)

/-- 'transhipmentlaw08.RulesGive': WHATEVER THE INPUT: true; the input reads as it did. -/
def rulesGiveSpec : ChangeSpec := { name := "rulesGive", fn := fun _ => fun
  | [d1, d2] => { results := [.lit (.bool true)], args := [d1, d2] }
  | _ => none }
def rulesGiveRow : OpenClaim := { program := "ytjigdmmlgddgpab", sum := "66af6d8a025bcf20b728aed0c6ca66874967aef6e8eb9db99e045233757195d3", func := "transhipment/transhipmentlaw08.RulesGive", spec := "rulesGive", inPlace := ["internal/bytealg.abigen_runtime_cmpstring"], unfollowed := true, recurses := true, apart := false }
def RulesGiveSaid : Prop := rulesGiveRow.holds Try.pinned (OpenSpec.ofChange rulesGiveSpec)

/-- ITS FALSE NEIGHBOUR: 'it returns false'. Refute it at one input. -/
def rulesGiveWrong : ChangeSpec := { name := "rulesGive", fn := fun _ => fun
  | [d1, d2] => { results := [.lit (.bool false)], args := [d1, d2] }
  | _ => none }
def RulesGiveWrongFalsely : Prop := rulesGiveRow.holds Try.pinned (OpenSpec.ofChange rulesGiveWrong)

/- THE SECOND FORM. 'bulk': how many values and letters a reading holds, each counted each time it is reached (what is shared counts as often as it is met; a slice's spare places count too). A statement '..UptoSaid' is the law's where the arguments, and the package variables that the reading takes, are together of bulk at most 1048576: NARROWER than '..Said'. Prove '..Said' where nothing that the law and all that it calls make is longer than what came in: it says more and counts as full. Else prove '..UptoSaid'. A law counts once. -/
mutual
def uptoBulk {H : Type} : DataW H → Nat
  | .lit (.string bytes) => bytes.length + 1
  | .lit _ => 1
  | .nil => 1
  | .ptr d => uptoBulk d + 1
  | .slice elems spare => uptoBulkAll elems + uptoBulkAll spare + 1
  | .agg parts => uptoBulkAll parts + 1
  | .iface _ d => uptoBulk d + 1
  | .map entries => uptoBulkEntries entries + 1
  | .held _ => 1
def uptoBulkAll {H : Type} : List (DataW H) → Nat
  | [] => 0
  | d :: r => uptoBulk d + uptoBulkAll r
def uptoBulkEntries {H : Type} : List (Lit × DataW H) → Nat
  | [] => 0
  | x :: r => uptoBulkEntry x + uptoBulkEntries r
def uptoBulkEntry {H : Type} : Lit × DataW H → Nat
  | (.string bytes, d) => bytes.length + uptoBulk d + 1
  | (_, d) => uptoBulk d + 1
 end
def uptoSmall : (H : Type) → List (DataW H) → Bool := fun _ ds => decide (uptoBulkAll ds ≤ 1048576)
def OpenSpec.upto (s : _root_.Go.ChangeSpec) : _root_.Go.OpenSpec := { _root_.Go.OpenSpec.ofChange s with cond := some uptoSmall }

/-- 'transhipmentlaw08.RulesFire', WHERE WHAT IT READS IS OF BULK AT MOST 1048576: true; the input reads as it did. -/
def rulesFireUptoRow : OpenClaim := { program := "ytjigdmmlgddgpab", sum := "66af6d8a025bcf20b728aed0c6ca66874967aef6e8eb9db99e045233757195d3", func := "transhipment/transhipmentlaw08.RulesFire", spec := "rulesFire", inPlace := ["internal/bytealg.abigen_runtime_cmpstring"], unfollowed := true, recurses := true, apart := false, narrowed := true }
def RulesFireUptoSaid : Prop := rulesFireUptoRow.holds Try.pinned (OpenSpec.upto rulesFireSpec)

/-- 'transhipmentlaw08.RulesOppose', WHERE WHAT IT READS IS OF BULK AT MOST 1048576: true; the input reads as it did. -/
def rulesOpposeUptoRow : OpenClaim := { program := "ytjigdmmlgddgpab", sum := "66af6d8a025bcf20b728aed0c6ca66874967aef6e8eb9db99e045233757195d3", func := "transhipment/transhipmentlaw08.RulesOppose", spec := "rulesOppose", inPlace := ["internal/bytealg.abigen_runtime_cmpstring"], unfollowed := true, recurses := true, apart := false, narrowed := true }
def RulesOpposeUptoSaid : Prop := rulesOpposeUptoRow.holds Try.pinned (OpenSpec.upto rulesOpposeSpec)

/-- 'transhipmentlaw08.RulesGive', WHERE WHAT IT READS IS OF BULK AT MOST 1048576: true; the input reads as it did. -/
def rulesGiveUptoRow : OpenClaim := { program := "ytjigdmmlgddgpab", sum := "66af6d8a025bcf20b728aed0c6ca66874967aef6e8eb9db99e045233757195d3", func := "transhipment/transhipmentlaw08.RulesGive", spec := "rulesGive", inPlace := ["internal/bytealg.abigen_runtime_cmpstring"], unfollowed := true, recurses := true, apart := false, narrowed := true }
def RulesGiveUptoSaid : Prop := rulesGiveUptoRow.holds Try.pinned (OpenSpec.upto rulesGiveSpec)

end Rows
end Go.Proofs.Ytjigdmmlgddgpab
