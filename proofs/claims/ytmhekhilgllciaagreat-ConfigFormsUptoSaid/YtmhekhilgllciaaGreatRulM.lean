/- Rules: what they are, which may be, which values fire, the labels of an alert: mathematics alone. -/
import Derived.Test.YtmhekhilgllciaaGreatLabVM
import Derived.Test.YtmhekhilgllciaaGreatBlkM
namespace Go.Proofs.YtmhekhilgllciaaGreat

structure Rul where
  name : ByteArray
  metric : ByteArray
  how : Int
  limit : Int
  fr : Int
  keep : Int
  tries : Int
  labels : List Lab

/-- the label that tells an alert's rule -/
def aName : ByteArray := ⟨#[97, 108, 101, 114, 116]⟩
def inC (n a b : Int) : Bool := decide (a ≤ n) && decide (n ≤ b)
def rlabsC (ls : List Lab) : Bool := decide (ls.length ≤ 4) && rightC ls && !hasN ls aName
def rulC (r : Rul) : Bool :=
  bwC r.name.data.toList && bwC r.metric.data.toList && inC r.how 1 5 && inC r.limit (-1099511627776) 1099511627776 && inC r.fr 0 1099511627776 && inC r.keep 0 1099511627776 && inC r.tries 1 10 && rlabsC r.labels
def compC (how limit v : Int) : Bool :=
  if how = 1 then decide (limit < v) else if how = 2 then !decide (v < limit) else if how = 3 then decide (v < limit) else if how = 4 then !decide (limit < v) else decide (v = limit)
def firesC (r : Rul) (v : Int) : Bool := rulC r && compC r.how r.limit v
def alabsP (r : Rul) (ls : List Lab) : List Lab × Int :=
  if rulC r = true then if (withP ls r.labels).2 = 0 then withP (withP ls r.labels).1 [(aName, r.name)] else ([], (withP ls r.labels).2) else ([], 1)
theorem rulC_iff (r : Rul) : rulC r = true ↔ bwC r.name.data.toList = true ∧ bwC r.metric.data.toList = true ∧ (1 ≤ r.how ∧ r.how ≤ 5) ∧ (-1099511627776 ≤ r.limit ∧ r.limit ≤ 1099511627776) ∧ (0 ≤ r.fr ∧ r.fr ≤ 1099511627776) ∧ (0 ≤ r.keep ∧ r.keep ≤ 1099511627776) ∧ (1 ≤ r.tries ∧ r.tries ≤ 10) ∧ rlabsC r.labels = true := by
  simp only [rulC, inC, Bool.and_eq_true, decide_eq_true_eq, and_assoc]
theorem rlabsC_iff (ls : List Lab) : rlabsC ls = true ↔ ls.length ≤ 4 ∧ rightC ls = true ∧ hasN ls aName = false := by
  simp only [rlabsC, Bool.and_eq_true, decide_eq_true_eq, Bool.not_eq_true', and_assoc]
end Go.Proofs.YtmhekhilgllciaaGreat
