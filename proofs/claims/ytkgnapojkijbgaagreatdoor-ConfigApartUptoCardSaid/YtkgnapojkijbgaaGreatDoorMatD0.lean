/- Rows of matchers in memory, and whether they hold. -/
import Derived.Test.YtkgnapojkijbgaaGreatDoorLabC
import Derived.Test.YtkgnapojkijbgaaGreatDoorMatM
import Derived.Test.YtkgnapojkijbgaaGreatDoorMatB
import Derived.Test.YtkgnapojkijbgaaGreatDoorLib3
namespace Go.Proofs.YtkgnapojkijbgaaGreatDoor
open Go.RowKit Go.Maps

def matCells (a : Option Addr) (c : Nat) (m : Mat) : Array Value := #[.string m.name, .int .i64 m.how, .slice a m.words.length c]
theorem Blk.cells1 {w : World} {g : Nat} {t : TypeId} {x : Value} (h : Blk w g t #[x]) : w.cell? ⟨g, 0, none⟩ = some x := h.cell 0
theorem matCells3 {w : World} {g : Nat} {t : TypeId} {a : Option Addr} {c : Nat} {m : Mat} (h : Blk w g t (matCells a c m)) : w.cell? ⟨g, 0, none⟩ = some (.string m.name) ∧ w.cell? ⟨g, 1, none⟩ = some (.int .i64 m.how) ∧ w.cell? ⟨g, 2, none⟩ = some (.slice a m.words.length c) := Blk.cells3 h

/-- the slice '.slice a ms.length c' reads as the matchers ms -/
def HasMats (w : World) (a : Option Addr) (c : Nat) (ms : List Mat) : Prop :=
  ms.length ≤ c ∧ c ≤ maxLen ∧
    (ms = [] ∨ ∃ b off, a = some ⟨b, off, none⟩ ∧ b < w.heap.size ∧ ∀ i (h : i < ms.length), ∃ x y,
      (w.cell? ⟨b, off + i * 3, none⟩ = some (.string ms[i].name) ∧ w.cell? ⟨b, off + i * 3 + 1, none⟩ = some (.int .i64 ms[i].how) ∧ w.cell? ⟨b, off + i * 3 + 2, none⟩ = some (.slice x ms[i].words.length y)) ∧
        HasStrs w x y ms[i].words ∧ ms[i].name.size ≤ maxLen ∧ (Lit.int .i64 ms[i].how).wf = true)
theorem HasMats.call {w w' : World} {a : Option Addr} {c : Nat} {ms : List Mat} (h : HasMats w a c ms) (hb : Below w.heap.size w w') : HasMats w' a c ms := by
  obtain ⟨h1, h2, h4⟩ := h
  refine ⟨h1, h2, ?_⟩
  rcases h4 with h4 | ⟨b, off, rfl, hlt, hc⟩
  · exact .inl h4
  · refine .inr ⟨b, off, rfl, Nat.lt_of_lt_of_le hlt hb.size, fun i hi => ?_⟩
    obtain ⟨x, y, ⟨g0, g1, g2⟩, g3, g4⟩ := hc i hi
    exact ⟨x, y, ⟨cellLater hb g0, cellLater hb g1, cellLater hb g2⟩, g3.call hb, g4⟩
theorem HasMats.nil (w : World) (a : Option Addr) (c : Nat) (hc : c ≤ maxLen) : HasMats w a c [] := ⟨Nat.zero_le _, hc, .inl rfl⟩

theorem all_end {α : Type} (p : α → Bool) (l : List α) : ∃ J, J ≤ l.length ∧ (∀ k (_h : k < J) (h2 : k < l.length), p l[k] = true) ∧ (J = l.length ∧ l.all p = true ∨ ∃ hj : J < l.length, p l[J] = false ∧ l.all p = false) := by
  cases h : l.all p with
  | true =>
    rw [List.all_eq_true] at h
    exact ⟨l.length, Nat.le_refl _, fun k _ h2 => h _ (List.getElem_mem h2), .inl ⟨rfl, rfl⟩⟩
  | false =>
    obtain ⟨j, hj, hb, ha⟩ := first_not (fun i => if hi : i < l.length then p l[i] else true) l.length (fun hall => by
      have : l.all p = true := by
        rw [List.all_eq_true]
        intro x hx
        obtain ⟨i, hi, rfl⟩ := List.getElem_of_mem hx
        have := hall i hi
        simpa [hi] using this
      rw [h] at this; cases this)
    refine ⟨j, by omega, fun k hk h2 => ?_, .inr ⟨hj, by simpa [hj] using hb, rfl⟩⟩
    have := ha k hk
    simpa [h2] using this

def holdsL (ls : List Lab) (ms : List Mat) : Bool × Int :=
  if rightC ls = true then (if ms.all rightM = true then (ms.all (fun m => holdsM (getL ls m.name) m), 0) else (false, 1)) else (false, 1)
def HoldsPost (ls : List Lab) (ms : List Mat) (w : World) (e : Ending) (w' : World) : Prop := e = .returned (.tuple #[.bool (holdsL ls ms).1, .int .i64 (holdsL ls ms).2]) ∧ Below w.heap.size w w'

end Go.Proofs.YtkgnapojkijbgaaGreatDoor
