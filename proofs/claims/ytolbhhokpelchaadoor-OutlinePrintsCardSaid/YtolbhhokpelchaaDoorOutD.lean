/- Nodes in memory. -/
import Derived.Test.YtolbhhokpelchaaDoorOutM
import Derived.Test.YtolbhhokpelchaaDoorStrs
import Derived.Test.YtolbhhokpelchaaDoorOwn
import Derived.Test.YtolbhhokpelchaaDoorOwnS
import Derived.Test.YtolbhhokpelchaaDoorBlkG
namespace Go.Proofs.YtolbhhokpelchaaDoor
open Go.RowKit

/-- a node with the places of its names and items -/
structure NdAt where
  n : Nd
  na : Option Addr
  nc : Nat
  ia : Option Addr
  ic : Nat
instance : Inhabited NdAt := ⟨⟨default, none, 0, none, 0⟩⟩
abbrev nCells (q : NdAt) : Array Value := #[.int .i64 q.n.kind, .string q.n.word, .slice q.na q.n.names.length q.nc, .slice q.ia q.n.items.length q.ic]
/-- the cells of an item lie there -/
def NdAt.lies (w : World) (b o : Nat) (q : NdAt) : Prop :=
  w.cell? ⟨b, o, none⟩ = some (.int .i64 q.n.kind) ∧ w.cell? ⟨b, o + 1, none⟩ = some (.string q.n.word) ∧ w.cell? ⟨b, o + 2, none⟩ = some (.slice q.na q.n.names.length q.nc) ∧ w.cell? ⟨b, o + 3, none⟩ = some (.slice q.ia q.n.items.length q.ic)
/-- what is asked of a node, its items aside -/
def NdAt.head (w : World) (q : NdAt) : Prop := HasStrs w q.na q.nc q.n.names ∧ q.n.word.size ≤ maxLen ∧ (Lit.int .i64 q.n.kind).wf = true ∧ q.n.items.length ≤ q.ic ∧ q.ic ≤ maxLen
/-- a node's names and items, and theirs, lie in memory -/
inductive NdAt.ok (w : World) : NdAt → Prop
  | flat (q : NdAt) : q.head w → q.n.items = [] → NdAt.ok w q
  | row (q : NdAt) (b off : Nat) (R : Nat → NdAt) : q.head w → q.ia = some ⟨b, off, none⟩ → b < w.heap.size → (∀ i (h : i < q.n.items.length), (R i).n = q.n.items[i]) → (∀ i, i < q.n.items.length → (R i).lies w b (off + i * 4)) → (∀ i, i < q.n.items.length → NdAt.ok w (R i)) → NdAt.ok w q
theorem NdAt.head.call {w w1 : World} {q : NdAt} (h : q.head w) (hb : Below w.heap.size w w1) : q.head w1 := ⟨h.1.call hb, h.2⟩
theorem NdAt.lies.call {w w1 : World} {q : NdAt} {b o : Nat} (h : q.lies w b o) (hb : Below w.heap.size w w1) : q.lies w1 b o :=
  ⟨cellL hb h.1, cellL hb h.2.1, cellL hb h.2.2.1, cellL hb h.2.2.2⟩
theorem NdAt.ok.call {w w1 : World} {q : NdAt} (h : q.ok w) (hb : Below w.heap.size w w1) : q.ok w1 := by
  induction h with
  | flat q h0 h1 => exact .flat q (h0.call hb) h1
  | row q b off R h0 h1 h2 h3 h4 h5 ih => exact .row q b off R (h0.call hb) h1 (Nat.lt_of_lt_of_le h2 hb.size) h3 (fun i hi => (h4 i hi).call hb) ih
theorem NdAt.ok.head {w : World} {q : NdAt} (h : q.ok w) : q.head w := by
  cases h with
  | flat _ h0 _ => exact h0
  | row _ _ _ _ h0 _ _ _ _ _ => exact h0
/-- the items, one by one -/
theorem NdAt.ok.place {w : World} {q : NdAt} (h : q.ok w) : q.n.items = [] ∨ ∃ b off, q.ia = some ⟨b, off, none⟩ ∧ b < w.heap.size ∧ ∀ i (h : i < q.n.items.length), ∃ r : NdAt, r.n = q.n.items[i] ∧ r.lies w b (off + i * 4) ∧ r.ok w := by
  cases h with
  | flat _ _ h1 => exact .inl h1
  | row _ b off R _ h1 h2 h3 h4 h5 => exact .inr ⟨b, off, h1, h2, fun i hi => ⟨R i, h3 i hi, h4 i hi, h5 i hi⟩⟩
/-- a node laid from its items -/
theorem NdAt.ok.of {w : World} {q : NdAt} {b off : Nat} (h0 : q.head w) (h1 : q.ia = some ⟨b, off, none⟩) (h2 : b < w.heap.size) (h3 : ∀ i (_h : i < q.n.items.length), ∃ r : NdAt, r.n = q.n.items[i] ∧ r.lies w b (off + i * 4) ∧ r.ok w) : q.ok w := by
  classical
  have h' : ∀ i, ∃ r : NdAt, ∀ (h : i < q.n.items.length), r.n = q.n.items[i] ∧ r.lies w b (off + i * 4) ∧ r.ok w := by
    intro i
    by_cases hi : i < q.n.items.length
    · obtain ⟨r, hr⟩ := h3 i hi
      exact ⟨r, fun _ => hr⟩
    · exact ⟨default, fun h => absurd h hi⟩
  refine .row q b off (fun i => Classical.choose (h' i)) h0 h1 h2 (fun i hi => (Classical.choose_spec (h' i) hi).1) (fun i hi => (Classical.choose_spec (h' i) hi).2.1) fun i hi => (Classical.choose_spec (h' i) hi).2.2
end Go.Proofs.YtolbhhokpelchaaDoor
