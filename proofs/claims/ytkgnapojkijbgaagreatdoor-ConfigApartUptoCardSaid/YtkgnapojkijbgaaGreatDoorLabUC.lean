/- The contract of the library's Contains of texts. -/
import Derived.Test.YtkgnapojkijbgaaGreatDoorLabU0
namespace Go.Proofs.YtkgnapojkijbgaaGreatDoor
open Go.RowKit

theorem containsL_any (a : Option Addr) (c : Nat) (ss : List ByteArray) (x : ByteArray) (w : World) (h : HasStrs w a c ss) :
    Calls Tryz.prog 181 #[.slice a ss.length c, .string x] w fun e w' => e = .returned (.bool (inB x ss)) ∧ w = w' := by
  obtain ⟨h1, h2, h3, h4⟩ := h
  unfold maxLen at h2
  rcases h4 with rfl | ⟨b, off, rfl, hb, hc⟩
  · exact (Tryz.slices_Contains_string_empty a c x w).mono fun e w' ⟨he, hw⟩ => ⟨he, hw.symm⟩
  · refine (Tryz.slices_Contains_string b off ss.length c ss x w (Nat.le_refl _) (by omega) (fun j hj => ?_)).mono fun e w' ⟨he, hw⟩ => ⟨?_, hw.symm⟩
    · rw [hc j hj]; simp [List.getD, hj]
    · rw [he, List.take_length]
      congr 2
      rw [Bool.eq_iff_iff, Lib.containsS_iff, inB_iff]

end Go.Proofs.YtkgnapojkijbgaaGreatDoor
