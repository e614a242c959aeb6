/- An element of an array by value. It speaks of no one program. -/
import Derived.WalkKit
import Derived.Test.YtdlhmjdjoadioabGreatDoorMg4
namespace Go.Proofs.YtdlhmjdjoadioabGreatDoor
open Go.RowKit
theorem run_indexV {P : Program} (w : World) (t e n : Nat) (cs : Array Value) (i : Int) (k : Nat) (v : Value) (ht : P.underlying t = some (.array n e)) (hi : i = (k : Int)) (hk : k < n) (hv : cs[k]? = some v) (hs : ∀ w, (sizeOf e).run P w = .ok 1 w) (ha : ∀ w, (isAgg e).run P w = .ok false w) :
    (Instr.index t (.agg cs) (.int .i64 i)).run P w = .ok v w := by
  subst hi
  have h1 : (0 : Int) ≤ (k : Int) ∧ (k : Int) < (n : Int) := by omega
  simp [Instr.index, run_underlying ht, asIntOf, hk, hv, hs, ha, go_sem]
theorem sizeInt (w : World) : (sizeOf 3).run Tryz.prog w = .ok 1 w := by kernel_rfl
theorem sizeStr (w : World) : (sizeOf 9).run Tryz.prog w = .ok 1 w := by kernel_rfl
theorem aggInt (w : World) : (isAgg 3).run Tryz.prog w = .ok false w := by kernel_rfl
theorem aggStr (w : World) : (isAgg 9).run Tryz.prog w = .ok false w := by kernel_rfl
end Go.Proofs.YtdlhmjdjoadioabGreatDoor
