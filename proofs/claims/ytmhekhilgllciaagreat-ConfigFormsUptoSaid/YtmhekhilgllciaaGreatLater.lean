/- A region that draws its order, whose operations only read and whose calls may make memory: one walk in the order of the text. The class of worlds: what a world becomes by new blocks and draws. It speaks of no one program. -/
import Derived.Test.YtmhekhilgllciaaGreatLib2
import Derived.BigQuiet
import Derived.Deep.QuietTactic
import Derived.Sort.Grow
namespace Go.Proofs.YtmhekhilgllciaaGreat
open Go.RowKit

/-- new blocks, and a count of draws -/
inductive Ext where
  | mk (xs : Array Obj) (n : Nat)
instance : Inhabited Ext := ⟨.mk #[] 0⟩
def later (w : World) : Ext → World
  | .mk xs n => { w with heap := w.heap ++ xs, drawn := n }
theorem later_below (w : World) (x : Ext) : Below w.heap.size w (later w x) := by
  obtain ⟨xs, n⟩ := x
  refine ⟨rfl, rfl, rfl, ?_, fun k hk => ?_⟩
  · simp [later]
  · simp only [later]
    rw [Array.getElem?_append_left hk]
theorem later_of {w W : World} (h : Below w.heap.size w W) : ∃ x, W = later w x := by
  refine ⟨.mk (W.heap.extract w.heap.size W.heap.size) W.drawn, ?_⟩
  obtain ⟨h1, h2, h3, h4, h5⟩ := h
  obtain ⟨hp, tp, dr, o, op⟩ := W
  simp only [later] at *
  subst h1 h2 h3
  congr
  apply Array.ext_getElem?
  intro i
  rcases Nat.lt_or_ge i w.heap.size with hi | hi
  · rw [Array.getElem?_append_left hi, h5 i hi]
  · rw [Array.getElem?_append_right hi, Array.getElem?_extract]
    split
    · congr 1; omega
    · rw [Array.getElem?_eq_none (by omega)]
theorem drawn_below {B : Nat} {w W : World} (h : Below B w W) (n : Nat) : Below B w (W.drewN n) := h.trans ⟨rfl, rfl, rfl, Nat.le_refl _, fun _ _ => rfl⟩
theorem later_size (w : World) (x : Ext) : w.heap.size ≤ (later w x).heap.size := (later_below w x).size
theorem later_cell {w : World} {p : Addr} {v : Value} (h : w.cell? p = some v) (x : Ext) : (later w x).cell? p = some v :=
  ((later_below w x).cell (World.block_lt_of_cell? _ _ h)).trans h

theorem wp_region_later {P : Program} {id : Nat} {Q : Exit → Act → World → Prop} {a : Act} {w : World} {l : List Oper} (hm : P.follows .mixedOrders = true) (hB : Region.lexB .any l.toArray = true)
    (h : wpQuiet P l.toArray (fun W => ∃ x, W = later w x) (fun a' => ∀ W, (∃ x, W = later w x) → Q .normal a' W) l a) : (Code.region id l.toArray true).wp P Q a w :=
  wp_region_quiet (C := fun W => ∃ x, W = later w x) hm hB (later_of ((Below.refl _ _).drew : Below w.heap.size w w.drew)) (by simpa using h)

/-- a callee's contract, met in a later world -/
theorem calls_later {P : Program} {f : FuncId} {args : Array Value} {w : World} {x : Ext} {v : Value}
    (h : Calls P f args (later w x) fun e w' => e = .returned v ∧ Below (later w x).heap.size (later w x) w') : Calls P f args (later w x) fun e w' => e = .returned v ∧ ∃ y, w' = later w y :=
  h.mono fun _ _ ⟨he, hb⟩ => ⟨he, later_of ((later_below w x).trans (hb.mono (later_size w x)))⟩
theorem calls_later_same {P : Program} {f : FuncId} {args : Array Value} {w : World} {x : Ext} {v : Value}
    (h : Calls P f args (later w x) fun e w' => e = .returned v ∧ later w x = w') : Calls P f args (later w x) fun e w' => e = .returned v ∧ ∃ y, w' = later w y :=
  h.mono fun _ _ ⟨he, hb⟩ => ⟨he, x, hb.symm⟩
theorem calls_later_drew {P : Program} {f : FuncId} {args : Array Value} {w : World} {x : Ext} {v : Value}
    (h : Calls P f args (later w x) fun e w' => e = .returned v ∧ ∃ n, w' = (later w x).drewN n) : Calls P f args (later w x) fun e w' => e = .returned v ∧ ∃ y, w' = later w y :=
  h.mono fun _ _ ⟨he, n, hb⟩ => ⟨he, later_of (by rw [hb]; exact drawn_below (later_below w x) n)⟩
end Go.Proofs.YtmhekhilgllciaaGreat
