/- What is told of two rows of texts that are compared. -/
import Derived.Test.YtmhehojjlacfoaaDoorInfo
import Derived.Test.YtmhehojjlacfoaaDoorLib2
import Derived.BigQuiet
import Derived.Deep.QuietTactic
import Derived.ProofKit
namespace Go.Proofs.YtmhehojjlacfoaaDoor
open Go.RowKit

def SamePost (B : Bool) (w : World) (e : Ending) (w' : World) : Prop := e = .returned (.bool B) ∧ Below w.heap.size w w'
end Go.Proofs.YtmhehojjlacfoaaDoor
