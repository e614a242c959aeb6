/- More laws of the walk that speak of no one program. -/
import Derived.Test.YtmhekhilgllciaaGreatLib
namespace Go.Proofs.YtmhekhilgllciaaGreat
open Go.RowKit

/-- one call behind another: what was there when the first one began has not turned -/
theorem bthen {w w1 w2 : World} (h : Below w.heap.size w w1) (k : Below w1.heap.size w1 w2) : Below w.heap.size w w2 := h.trans (k.mono h.size)

/-- the least of three lengths and 200 -/
theorem run_min4 {P : Program} (w : World) (ts : Array TypeId) (t : TypeId) (x y z : Nat) :
    (Builtin.min_ ts t #[.int .i64 (x : Int), .int .i64 (y : Int), .int .i64 (z : Int), .int .i64 200]).run P w = .ok (.int .i64 ((min (min (min x y) z) 200 : Nat) : Int)) w := by
  simp [Builtin.min_, Builtin.min2]
  repeat' split
  all_goals omega

end Go.Proofs.YtmhekhilgllciaaGreat
