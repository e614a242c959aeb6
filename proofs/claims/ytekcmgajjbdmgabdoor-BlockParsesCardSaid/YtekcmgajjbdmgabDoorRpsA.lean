/- The contract of the document's own Begins of layer 6. -/
import Derived.Test.YtekcmgajjbdmgabDoorRpsM
import Derived.Test.YtekcmgajjbdmgabDoorBlkB
import Derived.IntWalk
namespace Go.Proofs.YtekcmgajjbdmgabDoor
open Go.RowKit

theorem run_sliceFrom {P : Program} (w : World) (t : TypeId) (s : ByteArray) (i : Nat) (h : P.underlying t = some .string) (h2 : i ≤ s.size) :
    (Instr.slice t (.string s) (some (.int .i64 (i : Int))) none none).run P w = .ok (.string (s.extract i s.size)) w := by
  have hj : (0 : Int) ≤ (i : Int) ∧ (i : Int) ≤ (s.size : Int) := ⟨by omega, by omega⟩
  simp [Instr.slice, Instr.sliceBounds, Instr.sliceBound, asIntOf, run_underlying h, hj]
  intro hh
  omega
theorem run_sliceMid {P : Program} (w : World) (t : TypeId) (s : ByteArray) (i j : Nat) (h : P.underlying t = some .string) (h1 : i ≤ j) (h2 : j ≤ s.size) :
    (Instr.slice t (.string s) (some (.int .i64 (i : Int))) (some (.int .i64 (j : Int))) none).run P w = .ok (.string (s.extract i j)) w := by
  have hj : (0 : Int) ≤ (i : Int) ∧ (i : Int) ≤ (j : Int) ∧ (j : Int) ≤ (s.size : Int) ∧ (0 : Int) ≤ (j : Int) ∧ (i : Int) ≤ (s.size : Int) := ⟨by omega, by omega, by omega, by omega, by omega⟩
  simp [Instr.slice, Instr.sliceBounds, Instr.sliceBound, asIntOf, run_underlying h, hj]
  rw [if_pos h2, if_pos h1]

theorem bytesA_ofT (s : ByteArray) : bytesA s.data.toList = s := bytes_ext rfl
def beginT (s : ByteArray) : ByteArray := match beginsL s.data.toList with | some m => bytesA m | none => ⟨#[]⟩

set_option maxHeartbeats 1600000 in
theorem rBegins_any (s : ByteArray) (w : World) (hs : s.size ≤ maxLen) : Calls Tryd.prog 49 #[.string s] w (fun e w' => e = .returned (.string (beginT s)) ∧ w = w') := by
  unfold maxLen at hs
  have hl := lenB s
  have hbc := begins_cut s.data.toList
  rw [hl] at hbc
  by_cases h10 : s.size < 10
  · have e : beginT s = ⟨#[]⟩ := by unfold beginT; rw [hbc, if_neg (by omega)]
    rw [e]
    clear e hbc hl
    go_enter Tryd.func49, Tryd.ntmps49
    go_wp2_with fail
    go_ret
    exact ⟨rfl, rfl⟩
  have hP : ∀ W, (Instr.slice 9 (.string s) none (some (.int .i64 7)) none).run Tryd.prog W = .ok (.string (s.extract 0 7)) W := fun W => run_sliceTo (P := Tryd.prog) W 9 s 7 Tryd.underlying9 (by omega)
  have hT := fun W => run_sliceFrom (P := Tryd.prog) W 9 s (s.size - 2) Tryd.underlying9 (by omega)
  have hM : ∀ W, (Instr.slice 9 (.string s) (some (.int .i64 7)) (some (.int .i64 ((s.size - 2 : Nat) : Int))) none).run Tryd.prog W = .ok (.string (s.extract 7 (s.size - 2))) W := fun W => run_sliceMid (P := Tryd.prog) W 9 s 7 (s.size - 2) Tryd.underlying9 (by omega) (by omega)
  have dP : (s.extract 0 7).data.toList = s.data.toList.take 7 := by simp [ByteArray.data_extract]
  have dT : (s.extract (s.size - 2) s.size).data.toList = s.data.toList.drop (s.size - 2) := by
    simp [ByteArray.data_extract]
    rw [List.take_of_length_le (by rw [List.length_drop, hl]; omega)]
  have dM : (s.extract 7 (s.size - 2)).data.toList = (s.data.toList.drop 7).take (s.size - 9) := by
    simp [ByteArray.data_extract]
    omega
  rw [← dP, ← dT, ← dM] at hbc
  have sM : (s.extract 7 (s.size - 2)).size ≤ s.size := by simp; omega
  have hsub : IntKind.i64.wrap ((s.size : Int) - 2) = ((s.size - 2 : Nat) : Int) := by
    rw [IntWalk.i64_in _ (by omega)]
    omega
  generalize s.extract 0 7 = P at *
  generalize s.extract (s.size - 2) s.size = T at *
  generalize s.extract 7 (s.size - 2) = M at *
  have hW := fun W => rbWord_any M W (by unfold maxLen; omega)
  have eP : (P.toList == [100, 101, 102, 105, 110, 101, 32]) = decide (P.data.toList = preD) := by
    rw [ByteArray.toList_eq, Bool.eq_iff_iff, beq_iff_eq, decide_eq_true_iff]
    exact Iff.rfl
  have eT : (T.toList == [32, 123]) = decide (T.data.toList = [32, 123]) := by
    rw [ByteArray.toList_eq, Bool.eq_iff_iff, beq_iff_eq, decide_eq_true_iff]
  have HW := Lib.hid hW
  have HBC := Lib.hid hbc
  have h10i : ¬ (s.size : Int) < 10 := by omega
  have H10 := Lib.hid h10
  clear hW hbc dP dT dM hl sM h10
  by_cases p : P.data.toList = preD
  case neg =>
    have e : beginT s = ⟨#[]⟩ := by unfold beginT; rw [HBC.out, if_neg (fun h => p h.2.1)]
    rw [e]
    rw [decide_eq_false p] at eP
    clear e p eT
    go_enter Tryd.func49, Tryd.ntmps49
    go_wp2_with fail
    go_ret
    exact ⟨rfl, rfl⟩
  rw [decide_eq_true p] at eP
  by_cases q : T.data.toList = [32, 123]
  case neg =>
    have e : beginT s = ⟨#[]⟩ := by unfold beginT; rw [HBC.out, if_neg (fun h => q h.2.2.1)]
    rw [e]
    rw [decide_eq_false q] at eT
    clear e p q
    go_enter Tryd.func49, Tryd.ntmps49
    go_wp2_with fail
    go_ret
    exact ⟨rfl, rfl⟩
  rw [decide_eq_true q] at eT
  have hb : beginT s = if bwC M.data.toList = true then M else ⟨#[]⟩ := by
    unfold beginT
    rw [HBC.out]
    by_cases h : bwC M.data.toList = true
    · rw [if_pos ⟨by have := H10.out; omega, p, q, h⟩, if_pos h]
      exact bytesA_ofT M
    · rw [if_neg (fun hh => h hh.2.2.2), if_neg h]
  rw [hb]
  clear p q hb
  generalize bwC M.data.toList = B at *
  cases B
  all_goals
    go_enter Tryd.func49, Tryd.ntmps49
    go_wp2_with (go_at_call 39; (with_reducible refine (HW.out _).mono ?_); rintro e w2 ⟨rfl, rfl⟩)
    go_ret
    exact ⟨rfl, rfl⟩
end Go.Proofs.YtekcmgajjbdmgabDoor
