/- The element of a row of texts. -/
import Derived.Test.YtkgnapojkijbgaaGreatDoorRows
import Derived.Test.YtkgnapojkijbgaaGreatDoorStrs
import Derived.WalkLawsBesides
import Derived.WalkSpells
import Derived.Deep.DeepCutAuto
namespace Go.Proofs.YtkgnapojkijbgaaGreatDoor
open Go.RowKit

theorem Tryz.infoS : (Tryz.prog.info? 9).map (fun i => (i.zero, i.size, i.bytes)) = some (some (.string ⟨#[]⟩), 1, 16) := by kernel_rfl

end Go.Proofs.YtkgnapojkijbgaaGreatDoor
