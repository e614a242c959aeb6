/- The contract of the first laws' guard: the known number and the known check. -/
import Derived.Test.YtpgakhdcbkcmdaaFrame
import Derived.Test.YtpgakhdcbkcmdaaCrc
import Derived.BigQuiet
import Derived.Deep.QuietTactic
namespace Go.Proofs.Ytpgakhdcbkcmdaa
open Go.RowKit

theorem numB_300 : numB 300 = [172, 2] := by rw [numB_ge (by omega), numB_lt (by omega)]; decide
theorem number_300 (w : World) : Calls Try.prog 10 #[.int .i64 300] w fun e w' => e = .returned (.tuple #[.string ⟨#[172, 2]⟩, .int .i64 0]) ∧ Below w.heap.size w w' := by
  have h := number_any 300 w (by omega)
  rw [numB_300] at h
  exact h
theorem crc_known (w : World) : Calls Try.prog 15 #[.string ⟨#[49, 50, 51, 52, 53, 54, 55, 56, 57]⟩] w fun e w' => e = .returned (.int .u32 3421780262) ∧ Below w.heap.size w w' := by
  have h := crc_any ⟨#[49, 50, 51, 52, 53, 54, 55, 56, 57]⟩ w (by unfold maxLen; decide)
  have e : crcN [49, 50, 51, 52, 53, 54, 55, 56, 57] = 3421780262 := by decide +kernel
  simp only [] at h
  rw [e] at h
  exact h

theorem alive_any (w : World) : Calls Try.prog 13 #[] w fun e w' => e = .returned (.bool true) ∧ Below w.heap.size w w' := by
  go_enter Try.func13, Try.ntmps13
  go_wp2_with (first | (go_at_call 10; refine (number_300 _).mono ?_; rintro e w2 ⟨rfl, hb2⟩) | (go_at_call 15; refine (crc_known _).mono ?_; rintro e w3 ⟨rfl, hb3⟩))
  go_ret
  exact ⟨rfl, hb2.trans (hb3.mono hb2.size)⟩
end Go.Proofs.Ytpgakhdcbkcmdaa
