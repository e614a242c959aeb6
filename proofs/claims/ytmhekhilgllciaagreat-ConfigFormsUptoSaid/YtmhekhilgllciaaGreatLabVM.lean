/- What is laid over: mathematics alone. -/
import Derived.Test.YtmhekhilgllciaaGreatLabS
namespace Go.Proofs.YtmhekhilgllciaaGreat

def hasN (ms : List Lab) (s : ByteArray) : Bool := ms.any fun m => decide (m.1 = s)
theorem hasN_iff (ms : List Lab) (s : ByteArray) : hasN ms s = true ↔ ∃ m ∈ ms, m.1 = s := by simp [hasN, List.any_eq_true]
def restL (ls ms : List Lab) : List Lab := ls.filter fun l => !hasN ms l.1
theorem restL_take (ls ms : List Lab) (k : Nat) (h : k < ls.length) : restL (ls.take (k + 1)) ms = restL (ls.take k) ms ++ (if hasN ms ls[k].1 = true then [] else [ls[k]]) := by
  rw [List.take_succ_eq_append_getElem h, restL, List.filter_append]
  congr 1
  cases hq : hasN ms ls[k].1 <;> simp [hq]
theorem restL_len (ls ms : List Lab) : (restL ls ms).length ≤ ls.length := List.length_filter_le _ _
def withP (ls ms : List Lab) : List Lab × Int := if rightC ls = true then if rightC ms = true then newP (restL ls ms ++ ms) else ([], 1) else ([], 1)

end Go.Proofs.YtmhekhilgllciaaGreat
