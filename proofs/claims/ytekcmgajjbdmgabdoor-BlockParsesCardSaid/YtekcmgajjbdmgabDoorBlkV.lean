/- The contract of 'alive' of the statements of layer 6. -/
import Derived.Test.YtekcmgajjbdmgabDoorBlkP
namespace Go.Proofs.YtekcmgajjbdmgabDoor
open Go.RowKit

def knownD : Dfn := ⟨⟨#[104, 111, 115, 116]⟩, [⟨#[110, 97, 109, 101]⟩], [⟨#[97, 32, 98]⟩]⟩
theorem known_print : printT [knownD] = ⟨#[100, 101, 102, 105, 110, 101, 32, 104, 111, 115, 116, 32, 123, 10, 9, 110, 97, 109, 101, 9, 97, 32, 98, 10, 125, 10]⟩ ∧ printE [knownD] = 0 := by decide +kernel

theorem hasDefs_one (W : World) (q : DefAt) (h : q.ok W) : HasDefs (W.alloc (.cells (dCells q) 61)) (some ⟨W.heap.size, 0, none⟩) 1 [q.d] := by
  refine ⟨Nat.le_refl _, by unfold maxLen; omega, .inr ⟨W.heap.size, 0, rfl, by simp, fun i hi => ?_⟩⟩
  obtain rfl : i = 0 := by simpa using hi
  exact ⟨q, rfl, ⟨World.cell?_alloc_mark W _ _ (0, 0) 0, World.cell?_alloc_mark W _ _ (0, 0) 1, World.cell?_alloc_mark W _ _ (0, 0) 2⟩, h.call ((Below.refl _ _).alloc (Nat.le_refl _) _)⟩
theorem hasStrs_one (W : World) (s : ByteArray) (T : TypeId) (h : s.size ≤ maxLen) : HasStrs (W.alloc (.cells #[.string s] T)) (some ⟨W.heap.size, 0, none⟩) 1 [s] := by
  refine ⟨Nat.le_refl _, by unfold maxLen; omega, (fun x hx => by rw [List.mem_singleton] at hx; subst hx; exact h), .inr ⟨W.heap.size, 0, rfl, by simp, fun i hi => ?_⟩⟩
  obtain rfl : i = 0 := by simpa using hi
  exact World.cell?_alloc_mark W _ _ (0, 0) 0

set_option maxHeartbeats 1600000 in
set_option maxRecDepth 100000 in
theorem alive_any (w : World) : Calls Tryd.prog 11 #[] w (BoolW true w) := by
  have hW1 := (Below.refl w.heap.size w).alloc (Nat.le_refl _) (.cells #[.string ⟨#[110, 97, 109, 101]⟩] 9)
  have hW2 := hW1.alloc hW1.size (.cells #[.string ⟨#[97, 32, 98]⟩] 9)
  have hW3 := hW2.alloc hW2.size (.cells #[.string ⟨#[104, 111, 115, 116]⟩, .slice (some ⟨w.heap.size, 0, none⟩) 1 1, .slice (some ⟨w.heap.size + 1, 0, none⟩) 1 1] 61)
  have k1 := (hasStrs_one w ⟨#[110, 97, 109, 101]⟩ 9 (by unfold maxLen; decide)).call ((Below.refl _ _).alloc (Nat.le_refl _) (.cells #[.string ⟨#[97, 32, 98]⟩] 9))
  have k2 := hasStrs_one (w.alloc (.cells #[.string ⟨#[110, 97, 109, 101]⟩] 9)) ⟨#[97, 32, 98]⟩ 9 (by unfold maxLen; decide)
  have e1 : (w.alloc (.cells #[.string ⟨#[110, 97, 109, 101]⟩] 9)).heap.size = w.heap.size + 1 := by simp
  have e2 : ((w.alloc (.cells #[.string ⟨#[110, 97, 109, 101]⟩] 9)).alloc (.cells #[.string ⟨#[97, 32, 98]⟩] 9)).heap.size = w.heap.size + 2 := by simp
  rw [e1] at k2
  have hd := hasDefs_one _ ⟨knownD, some ⟨w.heap.size, 0, none⟩, 1, some ⟨w.heap.size + 1, 0, none⟩, 1⟩ ⟨k1, k2, by show knownD.kind.size ≤ maxLen; unfold maxLen; decide⟩
  have hp := bPrint_any _ _ _ _ hd
  unfold PrintP at hp
  rw [show (DefAt.d ⟨knownD, some ⟨w.heap.size, 0, none⟩, 1, some ⟨w.heap.size + 1, 0, none⟩, 1⟩) = knownD from rfl, known_print.1, known_print.2, e2] at hp
  have hp2 : Calls Tryd.prog 29 #[.slice (some ⟨w.heap.size + 2, 0, none⟩) 1 1] (((w.alloc (.cells #[.string ⟨#[110, 97, 109, 101]⟩] 9)).alloc (.cells #[.string ⟨#[97, 32, 98]⟩] 9)).alloc (.cells #[.string ⟨#[104, 111, 115, 116]⟩, .slice (some ⟨w.heap.size, 0, none⟩) 1 1, .slice (some ⟨w.heap.size + 1, 0, none⟩) 1 1] 61)) fun e w' => e = .returned (.tuple #[.string ⟨#[100, 101, 102, 105, 110, 101, 32, 104, 111, 115, 116, 32, 123, 10, 9, 110, 97, 109, 101, 9, 97, 32, 98, 10, 125, 10]⟩, .int .i64 0]) ∧ Below (((w.alloc (.cells #[.string ⟨#[110, 97, 109, 101]⟩] 9)).alloc (.cells #[.string ⟨#[97, 32, 98]⟩] 9)).alloc (.cells #[.string ⟨#[104, 111, 115, 116]⟩, .slice (some ⟨w.heap.size, 0, none⟩) 1 1, .slice (some ⟨w.heap.size + 1, 0, none⟩) 1 1] 61)).heap.size (((w.alloc (.cells #[.string ⟨#[110, 97, 109, 101]⟩] 9)).alloc (.cells #[.string ⟨#[97, 32, 98]⟩] 9)).alloc (.cells #[.string ⟨#[104, 111, 115, 116]⟩, .slice (some ⟨w.heap.size, 0, none⟩) 1 1, .slice (some ⟨w.heap.size + 1, 0, none⟩) 1 1] 61)) w' := hp
  have HP := Lib.hid hp2
  have HW := Lib.hid hW3
  clear hp hp2 hd k1 k2 e1 e2 hW1 hW2 hW3
  go_enter Tryd.func11, Tryd.ntmps11
  go_wp2_with (go_at_call 29; refine HP.out.mono ?_; rintro e w5 ⟨rfl, hb5⟩)
  go_ret
  exact ⟨rfl, bthen HW.out hb5⟩
end Go.Proofs.YtekcmgajjbdmgabDoor
