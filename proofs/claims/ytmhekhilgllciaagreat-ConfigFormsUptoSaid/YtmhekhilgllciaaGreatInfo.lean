/- The element of a row of texts. -/
import Derived.Test.YtmhekhilgllciaaGreatRows
import Derived.Test.YtmhekhilgllciaaGreatStrs
import Derived.WalkLawsBesides
import Derived.WalkSpells
import Derived.Deep.DeepCutAuto
namespace Go.Proofs.YtmhekhilgllciaaGreat
open Go.RowKit

theorem Tryz.infoS : (Tryz.prog.info? 9).map (fun i => (i.zero, i.size, i.bytes)) = some (some (.string ⟨#[]⟩), 1, 16) := by kernel_rfl

end Go.Proofs.YtmhekhilgllciaaGreat
