/- Labels held against one another. -/
import Derived.Test.YtkgnapojkijbgaaGreatDoorLabC
import Derived.Test.YtkgnapojkijbgaaGreatDoorOwn
import Derived.Laws.StructEq
namespace Go.Proofs.YtkgnapojkijbgaaGreatDoor
open Go.RowKit
open Go.WideShapes (bytes_inj)


theorem lab_parts (w : World) (n v : ByteArray) : (part 9 #[.string n, .string v] 0).run Tryz.prog w = .ok (.string n) w ∧ (part 9 #[.string n, .string v] 1).run Tryz.prog w = .ok (.string v) w := by
  constructor <;> simp [go_sem]
theorem run_neq_lab (x y : Lab) (w : World) : (binOp .neq 152 (.agg #[.string x.1, .string x.2]) (.agg #[.string y.1, .string y.2])).run Tryz.prog w = .ok (.bool (!decide (x = y))) w := by
  have hd : decide (x = y) = (decide (x.1 = y.1) && decide (x.2 = y.2)) := by
    rw [Bool.eq_iff_iff, Bool.and_eq_true, decide_eq_true_iff, decide_eq_true_iff, decide_eq_true_iff]
    exact Prod.ext_iff
  rw [hd, ← toList_eq_iff, ← toList_eq_iff]
  simp [go_sem]
  by_cases h1 : x.1.toList = y.1.toList <;> by_cases h2 : x.2.toList = y.2.toList <;> simp [h1, h2]
end Go.Proofs.YtkgnapojkijbgaaGreatDoor
