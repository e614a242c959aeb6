/- FrameBinds: for every row of texts and every text, texts bound, and a text taken apart, are as the document says, or refused. No condition. -/
import Derived.Test.YtpgakhdcbkcmdaaAlive
import Derived.Test.YtpgakhdcbkcmdaaBind3
import Derived.Test.YtpgakhdcbkcmdaaLooseRef
import Derived.ProofKit
import Derived.OpenShut
import Derived.ShutString
import Derived.ChangeOld
import Derived.Below
import Derived.Deep.DeepCutAuto
import Derived.Deep.RegionHeld3
namespace Go.Proofs.Ytpgakhdcbkcmdaa
open Go.ChangeShapes Go.WideShapes Go.ChangeAt Go.RowKit
open Go.ChangeMaps (open_string shut_string)

set_option maxHeartbeats 1600000 in
set_option maxRecDepth 100000 in
theorem frameBinds_walk (a0 : Option Addr) (len0 cap0 : Nat) (ss0 : List ByteArray) (w : World) (w0 : ss0.length = len0 ∧ HasStrs w a0 cap0 ss0) (a1 : ByteArray) (w1 : a1.size ≤ maxLen) :
    Calls Try.prog 5 #[.slice a0 len0 cap0, .string a1] w fun e w' => e = .returned (.bool true) ∧ Below w.heap.size w w' := by
  obtain ⟨rfl, h0⟩ := w0
  unfold maxLen at w1
  go_enter Try.func5, Try.ntmps5
  go_upto_region 1 with fail
  go_cut [0, 1] (fun l s wx => ∃ p q s1, l = .slice p (fewL ss0).length q ∧ s = .string s1 ∧ s1.size ≤ 20000 ∧ HasStrs wx p q (fewL ss0) ∧ Below w.heap.size w wx)
  case first =>
    by_cases h2 : a1.size ≤ 20000
    · go_region_with (go_at_call 18; refine (few_any _ _ ss0 _ h0.drew).mono ?_; rintro e w2 ⟨p, q, rfl, hL, hb2⟩)
      all_goals
        go_wp2_with fail
        go_meet
        exact ⟨_, _, _, rfl, rfl, h2, (by assumption), bthen (Below.refl _ _).drew (by assumption)⟩
    · go_region_with (go_at_call 18; refine (few_any _ _ ss0 _ h0.drew).mono ?_; rintro e w2 ⟨p, q, rfl, hL, hb2⟩)
      all_goals
        go_wp2_with fail
        go_meet
        exact ⟨_, _, _, rfl, rfl, by simp; omega, (by assumption), bthen (Below.refl _ _).drew (by assumption)⟩
  case rest =>
    obtain ⟨p, q, s, rfl, rfl, hs, hL, hb⟩ := hcut
    clear h0 w1
    have l0 := fewL_len ss0
    have s0 := fewL_size ss0
    generalize fewL ss0 = L at *
    have hsm : s.size ≤ maxLen := by unfold maxLen; omega
    have hlo := fun W => loose_any s W hsm
    have hlr := fun W => rloose_any s W hsm
    generalize loose s = R at *
    obtain ⟨T, E⟩ := R
    have HLO := Lib.hid hlo
    have HLR := Lib.hid hlr
    have HS := Lib.hid s0
    clear hlo hlr hsm s0
    cases hm : mayB L with
    | true =>
      have hbi := fun a c W h => bind_ok a c L W h hm
      have hma := fun a c W h => may_any a c L W h
      rw [hm] at hma
      have hrb := fun a c W h => rbind_any a c L W h l0 HS.out
      have HB := Lib.hid hbi
      have HM := Lib.hid hma
      have HRB := Lib.hid hrb
      generalize (⟨(bindL L).toArray⟩ : ByteArray) = Y at *
      clear hbi hma hrb hm
      go_wp2_with (first
        | (go_at_call 19; refine (HB.out _ _ _ hL).mono ?_; rintro e w3 ⟨rfl, hb3⟩; have hL3 := hL.call hb3)
        | (go_at_call 20; refine (HLO.out _).mono ?_; rintro e w4 ⟨x, y, rfl, hT, hb4⟩; have hL4 := hL3.call hb4)
        | (go_at_call 21; refine (HLR.out _).mono ?_; rintro e w5 ⟨x', y', rfl, hT', hb5⟩; have hL5 := hL4.call hb5; have hT5 := hT.call hb5)
        | (go_at_call 22; refine (same_any _ _ _ _ T T _ hT5 hT').mono ?_; rintro e w6 ⟨rfl, hb6⟩; have hL6 := hL5.call hb6)
        | (go_at_call 13; refine (alive_any _).mono ?_; rintro e w7 ⟨rfl, hb7⟩; have hL7 := hL6.call hb7)
        | (go_at_call 23; refine (HM.out _ _ _ hL7).mono ?_; rintro e w8 ⟨rfl, rfl⟩)
        | (go_at_call 24; refine (HRB.out _ _ _ hL7).mono ?_; rintro e w9 ⟨rfl, hb9⟩))
      go_ret
      refine ⟨rfl, ?_⟩
      repeat (first | exact hb | refine bthen ?_ (by assumption))
    | false =>
      have hbi := fun a c W h => bind_bad a c L W h hm
      have hma := fun a c W h => may_any a c L W h
      rw [hm] at hma
      have HB := Lib.hid hbi
      have HM := Lib.hid hma
      clear hbi hma hm
      go_wp2_with (first
        | (go_at_call 19; refine (HB.out _ _ _ hL).mono ?_; rintro e w3 ⟨rfl, hb3⟩; have hL3 := hL.call hb3)
        | (go_at_call 20; refine (HLO.out _).mono ?_; rintro e w4 ⟨x, y, rfl, hT, hb4⟩; have hL4 := hL3.call hb4)
        | (go_at_call 21; refine (HLR.out _).mono ?_; rintro e w5 ⟨x', y', rfl, hT', hb5⟩; have hL5 := hL4.call hb5; have hT5 := hT.call hb5)
        | (go_at_call 22; refine (same_any _ _ _ _ T T _ hT5 hT').mono ?_; rintro e w6 ⟨rfl, hb6⟩; have hL6 := hL5.call hb6)
        | (go_at_call 13; refine (alive_any _).mono ?_; rintro e w7 ⟨rfl, hb7⟩; have hL7 := hL6.call hb7)
        | (go_at_call 23; refine (HM.out _ _ _ hL7).mono ?_; rintro e w8 ⟨rfl, rfl⟩))
      go_ret
      refine ⟨rfl, ?_⟩
      repeat (first | exact hb | refine bthen ?_ (by assumption))

set_option maxRecDepth 100000 in
theorem frameBinds_lifted (os : Os) (started : os.Started) (H : Type) (enc : TypeId × Value → H) :
    ReturnsInHanded {} Try.checked os 5 .any (Rows.frameBindsSpec.pre6 enc Try.prog Try.f5 Rows.frameBindsRow.domain false) (Rows.frameBindsSpec.post enc Try.prog Try.f5 false true false false) := by
  refine returnsInHanded_of_change (C := Try.checked) (by kernel_rfl) started (by kernel_rfl) Try.func5
    (ChangeSpec.witness6 (enc := enc) (C := Try.checked) false ⟨#[], #[.slice none 0 0, .string ByteArray.empty], []⟩ 8 (by kernel_rfl) (by kernel_rfl) (by kernel_rfl) (by kernel_rfl)) ?_
  intro W base args ds gs before hval0 hW hcnd _
  have hval : ∀ (j : Nat) t v, Try.f5.params[j]? = some t → args[j]? = some v → Value.okWide Try.prog W .any base t v := hval0
  have hW' := hW
  obtain ⟨p, q, hA0, hV, rfl, hfz, hnd⟩ := hW
  have hA : DataW.TrodAll enc Try.prog W 0 (fun _ => true) true Try.f5.params.toList args.toList ds p := hA0
  rw [Try.params5] at hA hval
  obtain ⟨v0, vs0, d0, ds0, p0, q0, hargs, rfl, rfl, h0, r0⟩ := trodAll_cons hA
  obtain ⟨v1, vs1, d1, ds1, p1, q1, rfl, rfl, rfl, h1, r1⟩ := trodAll_cons r0
  obtain ⟨rfl, rfl, rfl⟩ := trodAll_nil r1
  obtain rfl : args = #[v0, v1] := by cases args; simp_all
  obtain ⟨rfl, rfl⟩ := trodVars_none hV
  obtain ⟨a0, len0, cap0, rfl⟩ := okWide_slice Try.underlying38 (hval 0 38 v0 rfl rfl)
  have k0 := h0
  have lt0 : ∀ x ∈ p0, x.block < W.heap.size := by obtain ⟨m, hm⟩ := k0; exact DataW.trod_lt m _ _ _ hm
  obtain ⟨ss0, w0⟩ := strArg_of Try.underlying38 Try.underlying9 (by kernel_rfl) h0
  obtain ⟨a1, rfl, rfl, rfl, w1⟩ := open_string Try.underlying9 (hval 1 9 v1 rfl rfl) h1
  clear hA0 hval0
  refine (frameBinds_walk (w := W) a0 len0 cap0 ss0 w0 a1 w1).mono fun e W' ⟨he, bel⟩ => ?_
  subst he
  exact ⟨_, rfl, _, _, _, [], _, [], hW', trodAll_mk1 (shut_bool Try.underlying4 _), (trodAll_cons_mk (Below.trod (by kernel_rfl) (by kernel_rfl) (of_decide_eq_true (by kernel_rfl)) k0 bel lt0) (trodAll_cons_mk (shut_string Try.underlying9 w1) trodAll_mk0)), rfl, bel.frame _, fun h => by cases h⟩

theorem frameBinds_over : Rows.frameBindsRow.holds Try.pinned (OpenSpec.ofChange Rows.frameBindsSpec) :=
  OpenClaim.holds_of_wide 5 Try.f5 rfl rfl rfl rfl rfl rfl rfl ⟨rfl, rfl, rfl, rfl, rfl⟩ rfl rfl rfl rfl rfl (by kernel_rfl) Try.func5 (by kernel_rfl)
    (of_decide_eq_true (by kernel_rfl)) (by unfold Func.isWrapper; first | (rw [if_pos (by decide +kernel)]; kernel_rfl) | (rw [if_neg (by decide +kernel)]; exact ⟨rfl, rfl⟩))
    (fun os started H enc _ => frameBinds_lifted os started H enc)

/-- THE STATEMENT -/
theorem frameBinds_holds : Rows.FrameBindsSaid := frameBinds_over
#print axioms frameBinds_holds
end Go.Proofs.Ytpgakhdcbkcmdaa
