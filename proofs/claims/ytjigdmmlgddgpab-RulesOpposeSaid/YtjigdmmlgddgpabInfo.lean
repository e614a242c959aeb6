/- The element of a row of texts. -/
import Derived.Test.YtjigdmmlgddgpabRows
import Derived.Test.YtjigdmmlgddgpabStrs
import Derived.WalkLawsBesides
import Derived.WalkSpells
import Derived.Deep.DeepCutAuto
namespace Go.Proofs.Ytjigdmmlgddgpab
open Go.RowKit

theorem Try.infoS : (Try.prog.info? 9).map (fun i => (i.zero, i.size, i.bytes)) = some (some (.string ⟨#[]⟩), 1, 16) := by kernel_rfl

end Go.Proofs.Ytjigdmmlgddgpab
