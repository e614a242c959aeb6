/- What the rows' list gives: the two tables' cells; the world in which they are laid. -/
import Derived.Test.YtmmpnkcfekhkhaaDoorCards
import Derived.Test.YtmmpnkcfekhkhaaDoorTie
import Derived.Test.YtmmpnkcfekhkhaaDoorShaC
import Derived.ProofKit
import Derived.LaidMore
import Derived.OpenShut
import Derived.Stop.Joined
import Derived.Stop.LaidErr
import Derived.Lib.LaidTab
namespace Go.Proofs.YtmmpnkcfekhkhaaDoor
open Go.ChangeShapes Go.WideShapes Go.ChangeAt Go.RowKit

theorem ownK : ownKnob Tryd.prog.godebug = none := by kernel_rfl
theorem gBegins : Tryd.prog.globalNamed "transhipment/seal.begins" = some 0 := by kernel_rfl
theorem gSteps : Tryd.prog.globalNamed "transhipment/seal.steps" = some 1 := by kernel_rfl
theorem tBegins : (Tryd.prog.globals[0]?).map (·.type) = some 46 := by kernel_rfl
theorem tSteps : (Tryd.prog.globals[1]?).map (·.type) = some 71 := by kernel_rfl
theorem cellsU : Tryd.prog.cellsOf 40 = 1 := by kernel_rfl
theorem cells8T : Tryd.prog.cellsOf 46 = 8 := by kernel_rfl
theorem cells64T : Tryd.prog.cellsOf 71 = 64 := by kernel_rfl
abbrev laidL : List (String × DataW Unit) := [("transhipment/seal.begins", Rows.laid_transhipment_seal_begins), ("transhipment/seal.steps", Rows.laid_transhipment_seal_steps)]
theorem laid1 : (Rows.laid_transhipment_seal_begins : DataW Unit) = Lib.tabData .u32 (HH.map fun x : Nat => (x : Int)) := rfl
theorem laid2 : (Rows.laid_transhipment_seal_steps : DataW Unit) = Lib.tabData .u32 (KK.map fun x : Nat => (x : Int)) := rfl
theorem getD_cast (l : List Nat) (i : Nat) : (l.map fun x : Nat => (x : Int)).getD i 0 = ((l.getD i 0 : Nat) : Int) := by
  rw [List.getD_eq_getElem?_getD, List.getD_eq_getElem?_getD, List.getElem?_map]
  cases l[i]? <;> rfl
theorem tabs_of {W : World} (h : laidMetH Tryd.prog laidL W) : Tabs W := by
  rw [MakeChecks.laidMetH_plain _ _ _ (by kernel_rfl)] at h
  have h2 := h.tail
  rw [laidL, laid1] at h
  rw [laid2] at h2
  have t1 := Lib.tabIs_of_head gBegins tBegins Tryd.underlying46 Tryd.underlying40 cellsU cells8T h
  have t2 := Lib.tabIs_of_head gSteps tSteps Tryd.underlying71 Tryd.underlying40 cellsU cells64T h2
  have c1 : ∀ i, i < 8 → W.cell? ⟨0, i, none⟩ = some (.int .u32 ((HH.getD i 0 : Nat) : Int)) := fun i hi => by
    rw [t1.cell gBegins i (by simpa [HH_len] using hi), getD_cast]
  have c2 : ∀ i, i < 64 → W.cell? ⟨1, i, none⟩ = some (.int .u32 ((KK.getD i 0 : Nat) : Int)) := fun i hi => by
    rw [t2.cell gSteps i (by simpa [KK_len] using hi), getD_cast]
  exact ⟨World.block_lt_of_cell? W _ (c2 0 (by omega)), c1, c2⟩
theorem door_met (os : Os) (args : Array Value) : laidMetH Tryd.prog laidL ((World.doorLaid Tryd.prog 400 os).forCall (fun _ _ => 0) ⟨#[], args, []⟩).memory :=
  laidMetH_of_parts3 (fuel := 8) (laidMet_of_run' 8 (by kernel_rfl) (by kernel_rfl)) (by kernel_rfl) (by kernel_rfl)
end Go.Proofs.YtmmpnkcfekhkhaaDoor
