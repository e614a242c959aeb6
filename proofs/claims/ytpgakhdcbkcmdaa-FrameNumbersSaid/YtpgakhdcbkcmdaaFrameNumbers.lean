/- FrameNumbers: for every integer and every text, the number's bytes and the number at the text's beginning are as the document says, or refused. No condition. -/
import Derived.Test.YtpgakhdcbkcmdaaAlive
import Derived.Test.YtpgakhdcbkcmdaaRef1
import Derived.ProofKit
import Derived.OpenShut
import Derived.ShutString
import Derived.ChangeOld
import Derived.Below
namespace Go.Proofs.Ytpgakhdcbkcmdaa
open Go.ChangeShapes Go.WideShapes Go.ChangeAt Go.RowKit
open Go.ChangeMaps (open_string shut_string)

set_option maxHeartbeats 800000 in
set_option maxRecDepth 100000 in
theorem frameNumbers_walk (a0 : Int) (w0 : (Lit.int .i64 a0).wf = true) (a1 : ByteArray) (w1 : a1.size ≤ maxLen) (w : World) :
    Calls Try.prog 3 #[.int .i64 a0, .string a1] w fun e w' => e = .returned (.bool true) ∧ Below w.heap.size w w' := by
  clear w0
  have hread := fun W => read_any a1 W w1
  have hrread := fun W => rread_any a1 W w1
  generalize rd a1.data.toList = R at *
  obtain ⟨N, U, E⟩ := R
  simp only [] at hread hrread
  have HR := Lib.hid hread
  have HQ := Lib.hid hrread
  clear hread hrread
  by_cases hbad : a0 < 0 ∨ 4611686018427387904 ≤ a0
  · by_cases h0 : a0 < 0
    · go_enter Try.func3, Try.ntmps3
      go_wp2_with (first | (go_at_call 10; refine (number_bad _ _ hbad).mono ?_; rintro e w2 ⟨rfl, rfl⟩) | (go_at_call 11; refine (HR.out _).mono ?_; rintro e w3 ⟨rfl, rfl⟩) | (go_at_call 12; refine (HQ.out _).mono ?_; rintro e w4 ⟨rfl, hb4⟩) | (go_at_call 13; refine (alive_any _).mono ?_; rintro e w5 ⟨rfl, hb5⟩))
      go_ret
      exact ⟨rfl, (hb4.alloc hb4.size _).trans (hb5.mono (by have := hb4.size; simp; omega))⟩
    · have h1 : 4611686018427387904 ≤ a0 := by omega
      go_enter Try.func3, Try.ntmps3
      go_wp2_with (first | (go_at_call 10; refine (number_bad _ _ hbad).mono ?_; rintro e w2 ⟨rfl, rfl⟩) | (go_at_call 11; refine (HR.out _).mono ?_; rintro e w3 ⟨rfl, rfl⟩) | (go_at_call 12; refine (HQ.out _).mono ?_; rintro e w4 ⟨rfl, hb4⟩) | (go_at_call 13; refine (alive_any _).mono ?_; rintro e w5 ⟨rfl, hb5⟩))
      go_ret
      exact ⟨rfl, (hb4.alloc hb4.size _).trans (hb5.mono (by have := hb4.size; simp; omega))⟩
  · obtain ⟨n, rfl⟩ := Int.eq_ofNat_of_zero_le (show 0 ≤ a0 by omega)
    have hn : n < 4611686018427387904 := by omega
    clear hbad
    go_enter Try.func3, Try.ntmps3
    go_wp2_with (first | (go_at_call 10; refine (number_any n _ hn).mono ?_; rintro e w2 ⟨rfl, hb2⟩) | (go_at_call 11; refine (HR.out _).mono ?_; rintro e w3 ⟨rfl, rfl⟩) | (go_at_call 12; refine (HQ.out _).mono ?_; rintro e w4 ⟨rfl, hb4⟩) | (go_at_call 13; refine (alive_any _).mono ?_; rintro e w5 ⟨rfl, hb5⟩) | (go_at_call 14; refine (rnumber_any n _ hn).mono ?_; rintro e w6 ⟨rfl, hb6⟩))
    go_ret
    have s4 := hb2.size
    have s5 := hb4.size
    have s6 := hb5.size
    simp at s6
    exact ⟨by simp, (((hb2.trans (hb4.mono s4)).alloc (by omega) _).trans (hb5.mono (by simp; omega))).trans (hb6.mono (by omega))⟩

set_option maxRecDepth 100000 in
theorem frameNumbers_lifted (os : Os) (started : os.Started) (H : Type) (enc : TypeId × Value → H) :
    ReturnsInHanded {} Try.checked os 3 .any (Rows.frameNumbersSpec.pre6 enc Try.prog Try.f3 Rows.frameNumbersRow.domain false) (Rows.frameNumbersSpec.post enc Try.prog Try.f3 false true false false) := by
  refine returnsInHanded_of_change (C := Try.checked) (by kernel_rfl) started (by kernel_rfl) Try.func3
    (ChangeSpec.witness6 (enc := enc) (C := Try.checked) false ⟨#[], #[.int .i64 0, .string ByteArray.empty], []⟩ 8 (by kernel_rfl) (by kernel_rfl) (by kernel_rfl) (by kernel_rfl)) ?_
  intro W base args ds gs before hval0 hW hcnd _
  have hval : ∀ (j : Nat) t v, Try.f3.params[j]? = some t → args[j]? = some v → Value.okWide Try.prog W .any base t v := hval0
  have hW' := hW
  obtain ⟨p, q, hA0, hV, rfl, hfz, hnd⟩ := hW
  have hA : DataW.TrodAll enc Try.prog W 0 (fun _ => true) true Try.f3.params.toList args.toList ds p := hA0
  rw [Try.params3] at hA hval
  obtain ⟨v0, vs0, d0, ds0, p0, q0, hargs, rfl, rfl, h0, r0⟩ := trodAll_cons hA
  obtain ⟨v1, vs1, d1, ds1, p1, q1, rfl, rfl, rfl, h1, r1⟩ := trodAll_cons r0
  obtain ⟨rfl, rfl, rfl⟩ := trodAll_nil r1
  obtain rfl : args = #[v0, v1] := by cases args; simp_all
  obtain ⟨rfl, rfl⟩ := trodVars_none hV
  obtain ⟨a0, rfl, rfl, rfl, w0⟩ := open_int Try.underlying3 (hval 0 3 v0 rfl rfl) h0
  obtain ⟨a1, rfl, rfl, rfl, w1⟩ := open_string Try.underlying9 (hval 1 9 v1 rfl rfl) h1
  clear hA0 hval0
  refine (frameNumbers_walk a0 w0 a1 w1 W).mono fun e W' ⟨he, bel⟩ => ?_
  subst he
  exact ⟨_, rfl, _, _, _, [], _, [], hW', trodAll_mk1 (shut_bool Try.underlying4 _), (trodAll_cons_mk (shut_int Try.underlying3 w0) (trodAll_cons_mk (shut_string Try.underlying9 w1) trodAll_mk0)), rfl, bel.frame _, fun h => by cases h⟩

theorem frameNumbers_over : Rows.frameNumbersRow.holds Try.pinned (OpenSpec.ofChange Rows.frameNumbersSpec) :=
  OpenClaim.holds_of_wide 3 Try.f3 rfl rfl rfl rfl rfl rfl rfl ⟨rfl, rfl, rfl, rfl, rfl⟩ rfl rfl rfl rfl rfl (by kernel_rfl) Try.func3 (by kernel_rfl)
    (of_decide_eq_true (by kernel_rfl)) (by unfold Func.isWrapper; first | (rw [if_pos (by decide +kernel)]; kernel_rfl) | (rw [if_neg (by decide +kernel)]; exact ⟨rfl, rfl⟩))
    (fun os started H enc _ => frameNumbers_lifted os started H enc)

/-- THE STATEMENT -/
theorem frameNumbers_holds : Rows.FrameNumbersSaid := frameNumbers_over
#print axioms frameNumbers_holds
end Go.Proofs.Ytpgakhdcbkcmdaa
