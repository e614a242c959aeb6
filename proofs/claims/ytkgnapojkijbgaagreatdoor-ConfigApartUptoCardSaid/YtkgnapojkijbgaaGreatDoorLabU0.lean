/- Which names are among some. -/
import Derived.Test.YtkgnapojkijbgaaGreatDoorLabR0
import Derived.Test.YtkgnapojkijbgaaGreatDoorShelf
namespace Go.Proofs.YtkgnapojkijbgaaGreatDoor
open Go.RowKit


theorem HasLabs.some {w : World} {a : Option Addr} {c : Nat} {ls : List Lab} (h : HasLabs w a c ls) (k : Nat) (hk : k < ls.length) :
    ∃ b off, a = some ⟨b, off, none⟩ ∧ b < w.heap.size ∧ ∀ i (h : i < ls.length), w.cell? ⟨b, off + i * 2, none⟩ = some (.string ls[i].1) ∧ w.cell? ⟨b, off + i * 2 + 1, none⟩ = some (.string ls[i].2) := by
  obtain ⟨_, _, _, h4⟩ := h
  rcases h4 with rfl | h4
  · exact absurd hk (by simp)
  · exact h4

def inB (x : ByteArray) (ss : List ByteArray) : Bool := ss.any fun s => decide (s = x)
theorem inB_iff (x : ByteArray) (ss : List ByteArray) : inB x ss = true ↔ x ∈ ss := by
  simp only [inB, List.any_eq_true, decide_eq_true_eq]
  exact ⟨fun ⟨s, h, e⟩ => e ▸ h, fun h => ⟨x, h, rfl⟩⟩
end Go.Proofs.YtkgnapojkijbgaaGreatDoor
