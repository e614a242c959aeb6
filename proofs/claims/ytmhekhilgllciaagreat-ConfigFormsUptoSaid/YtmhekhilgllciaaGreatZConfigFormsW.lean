/- The walk of ConfigForms. -/
import Derived.Test.YtmhekhilgllciaaGreatZFormA
import Derived.Test.YtmhekhilgllciaaGreatZFormB
import Derived.Test.YtmhekhilgllciaaGreatZFormC
namespace Go.Proofs.YtmhekhilgllciaaGreat
open Go.RowKit

theorem configForms_walk {w : World} (a : CfA) (ha : a.ok w) (b : CfA) (hb : b.ok w) : Calls Tryz.prog 3 #[.agg (kCells a), .agg (kCells b)] w (fun e w' => e = .returned (.bool true) ∧ Below w.heap.size w w') := by
  cases hA : cfgC a with
  | false => exact form_A a b w ha hb hA
  | true =>
    cases hB : cfgC b with
    | false => exact form_B a b w ha hb hA hB
    | true => exact form_C a b w ha hb hA hB
end Go.Proofs.YtmhekhilgllciaaGreat
