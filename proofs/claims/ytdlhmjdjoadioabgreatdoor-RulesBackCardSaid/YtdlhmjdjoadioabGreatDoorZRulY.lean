/- The contracts of rules.howOf, number, Read. -/
import Derived.Test.YtdlhmjdjoadioabGreatDoorZRulX
import Derived.Test.YtdlhmjdjoadioabGreatDoorZLabPP
import Derived.Test.YtdlhmjdjoadioabGreatDoorMg8
import Derived.Lib.AtoiErrMem
namespace Go.Proofs.YtdlhmjdjoadioabGreatDoor
open Go.RowKit

/-- what the listed variables hold -/
def RW (w : World) : Prop := TabW w ∧ MaxC w ∧ (∃ t p, w.cell? ⟨1, 0, none⟩ = some (.iface t p)) ∧ (∃ t p, w.cell? ⟨2, 0, none⟩ = some (.iface t p))
theorem RW.call {w w1 : World} (h : RW w) (hb : Below w.heap.size w w1) : RW w1 := by
  obtain ⟨h1, h2, ⟨t, p, h3⟩, ⟨t', p', h4⟩⟩ := h
  have k : ∀ a v, w.cell? a = some v → w1.cell? a = some v := fun a v hv => (hb.cell (World.block_lt_of_cell? _ _ hv)).trans hv
  exact ⟨h1.call hb, h2.call hb, ⟨t, p, k _ _ h3⟩, ⟨t', p', k _ _ h4⟩⟩
def AtoiP (s : Bs) (w : World) (e : Ending) (w' : World) : Prop :=
  (∃ v ev, e = .returned (.tuple #[.int .i64 v, ev]) ∧ ((Lib.atoiAll s = .ok v ∧ ev = .nilIface) ∨ ((∀ u, Lib.atoiAll s ≠ .ok u) ∧ ∃ t p, ev = .iface t p))) ∧ Below w.heap.size w w'
theorem atoi_any (s : ByteArray) (w : World) (hw : RW w) (hs : s.size ≤ 100000) : Calls Tryz.prog 49 #[.string s] w (AtoiP s.data.toList w) := by
  obtain ⟨_, _, ⟨t, p, h3⟩, ⟨t', p', h4⟩⟩ := hw
  cases h : Lib.atoiAll s.data.toList
  · rename_i v
    refine (Tryz.strconv_Atoi_ok s (by omega) v h w).mono ?_
    rintro e w' ⟨rfl, hw'⟩
    refine ⟨⟨v, _, rfl, .inl ⟨h, rfl⟩⟩, ?_⟩
    rcases hw' with rfl | ⟨t, rfl⟩
    · exact Below.refl _ _
    · exact Lib.bytesWorld_below _ _ _
  · refine (Any.strconv_Atoi_syntax Tryz.laysC172 s (by omega) h _ w h3 (.inr ⟨t, p, rfl⟩)).mono ?_
    rintro e w' ⟨N, rfl, _, _, hb⟩
    exact ⟨⟨_, _, rfl, .inr ⟨fun u hu => (by rw [h] at hu; cases hu), _, _, rfl⟩⟩, hb⟩
  · refine (Tryz.strconv_Atoi_range s (by omega) h _ w h4 (.inr ⟨t', p', rfl⟩)).mono ?_
    rintro e w' ⟨N, rfl, _, _, hb⟩
    exact ⟨⟨_, _, rfl, .inr ⟨fun u hu => (by rw [h] at hu; cases hu), _, _, rfl⟩⟩, hb⟩
end Go.Proofs.YtdlhmjdjoadioabGreatDoor
