/- What the library's own variable internal/bytealg.MaxLen holds. It speaks of no one program. -/
import Derived.Test.YtolbhhokpelchaaDoorLib2
namespace Go.Proofs.YtolbhhokpelchaaDoor
open Go.RowKit

/-- what the library's own variable holds: some number -/
def MaxC (w : World) : Prop := ∃ m : Int, w.cell? ⟨0, 0, none⟩ = some (.int .i64 m)
theorem MaxC.lt2 {w : World} (h : MaxC w) : 0 < w.heap.size := by
  obtain ⟨m, h⟩ := h
  exact World.block_lt_of_cell? w _ h
theorem MaxC.lt {w : World} (h : MaxC w) : 0 < w.heap.size := Nat.lt_of_le_of_lt (Nat.zero_le _) h.lt2
theorem MaxC.call {w w1 : World} (h : MaxC w) (hb : Below w.heap.size w w1) : MaxC w1 := by
  have hlt := h.lt2
  obtain ⟨m, h⟩ := h
  exact ⟨m, by rw [← h]; unfold World.cell?; rw [hb.block 0 hlt]⟩

end Go.Proofs.YtolbhhokpelchaaDoor
