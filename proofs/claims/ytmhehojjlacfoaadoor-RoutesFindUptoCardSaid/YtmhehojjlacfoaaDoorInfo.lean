/- The element of a row of texts. -/
import Derived.Test.YtmhehojjlacfoaaDoorRows
import Derived.Test.YtmhehojjlacfoaaDoorStrs
import Derived.WalkLawsBesides
import Derived.WalkSpells
import Derived.Deep.DeepCutAuto
namespace Go.Proofs.YtmhehojjlacfoaaDoor
open Go.RowKit

theorem Tryd.infoS : (Tryd.prog.info? 9).map (fun i => (i.zero, i.size, i.bytes)) = some (some (.string ⟨#[]⟩), 1, 16) := by kernel_rfl

end Go.Proofs.YtmhehojjlacfoaaDoor
