/- SealOpens: for every row of texts and every text: what is sealed, and what a text opens to, is as the document's own program says. The card: the two tables of constants hold what the program's text lays. -/
import Derived.Test.YtkaojhgdhhkbjaaDoorSealBackW
import Derived.Test.YtkaojhgdhhkbjaaDoorRefE
namespace Go.Proofs.YtkaojhgdhhkbjaaDoor
open Go.ChangeShapes Go.WideShapes Go.ChangeAt Go.RowKit
open Go.ChangeMaps (open_string shut_string)

set_option maxHeartbeats 3200000 in
set_option maxRecDepth 100000 in
theorem sealOpens_walk (a0 : Option Addr) (len0 cap0 : Nat) (ss0 : List ByteArray) (w : World) (w0 : ss0.length = len0 ∧ HasStrs w a0 cap0 ss0) (a1 : ByteArray) (w1 : a1.size ≤ maxLen) (hT : Tabs w) :
    Calls Tryd.prog 4 #[.slice a0 len0 cap0, .string a1] w fun e w' => e = .returned (.bool true) ∧ Below w.heap.size w w' := by
  obtain ⟨rfl, h0⟩ := w0
  unfold maxLen at w1
  have HT := Lib.hid hT
  clear hT
  go_enter Tryd.func4, Tryd.ntmps4
  go_upto_region 1 with fail
  go_cut [0, 1] (fun l s wx => ∃ p q s1, l = .slice p (fewL ss0).length q ∧ s = .string s1 ∧ s1.size ≤ 3000 ∧ HasStrs wx p q (fewL ss0) ∧ Below w.heap.size w wx)
  case first =>
    by_cases h2 : a1.size ≤ 3000
    · go_region_with (go_at_call 18; refine (few_any _ _ ss0 _ h0.drew).mono ?_; rintro e w2 ⟨p, q, rfl, hL, hb2⟩)
      all_goals
        go_wp2_with fail
        go_meet
        exact ⟨_, _, _, rfl, rfl, h2, (by assumption), bthen (Below.refl _ _).drew (by assumption)⟩
    · go_region_with (go_at_call 18; refine (few_any _ _ ss0 _ h0.drew).mono ?_; rintro e w2 ⟨p, q, rfl, hL, hb2⟩)
      all_goals
        go_wp2_with fail
        go_meet
        exact ⟨_, _, _, rfl, rfl, by simp; omega, (by assumption), bthen (Below.refl _ _).drew (by assumption)⟩
  case rest =>
    obtain ⟨p, q, s, rfl, rfl, hs, hL, hb⟩ := hcut
    clear h0 w1
    generalize fewL ss0 = L at *
    have hTc := HT.out.call hb HT.out.1 hb.size
    have HTC := Lib.hid hTc
    clear hTc
    have hos := fun W (hW : Tabs W) => open_any s W (by omega) hW
    have hro := fun W => ropen_any s W (by omega)
    obtain ⟨T, E, hTE⟩ : ∃ T E, openF s = (T, E) := ⟨_, _, rfl⟩
    rw [hTE] at hos hro
    have HOS := Lib.hid hos
    have HRO := Lib.hid hro
    clear hos hro hTE
    have hrm := fun a c W (hW : HasStrs W a c L) => rmay_any a c L W hW
    have hsame := fun a c a' c' W (h1 : HasStrs W a c T) (h2 : HasStrs W a' c' T) => same_same a a' c c' T W h1 h2
    have HSM := Lib.hid hsame
    clear hsame
    have he1 : ((E : Int) == (E : Int)) = true := by rw [beq_iff_eq]
    have he2 : ((E : Int) != (E : Int)) = false := by rw [bne, he1]; rfl
    cases hm : mayC L with
    | true =>
      rw [hm] at hrm
      have hcl := fun a c W (hW : HasStrs W a c L) (hT : Tabs W) => close_ok a c L W hW hm hT
      have hrc := fun a c W (hW : HasStrs W a c L) => rclose_ok a c L W hW hm
      rw [← closeS_true hm] at hcl hrc
      have HCL := Lib.hid hcl
      have HRC := Lib.hid hrc
      have HRM := Lib.hid hrm
      clear hcl hrc hrm hm
      generalize closeS L = C at *
      have hss : (C.toList == C.toList) = true := by simp
      go_wp2_with (first
          | (go_at_call 19; (with_reducible refine (HCL.out _ _ _ hL HTC.out).mono ?_); rintro e w3 ⟨rfl, hb3⟩; have hL3 := hL.call hb3; have hT3 := Lib.hid (Tabs.after HTC.out hb3))
          | (go_at_call 20; (with_reducible refine (HOS.out _ hT3.out).mono ?_); rintro e w4 ⟨x, y, rfl, hX, hb4⟩; have hL4 := hL3.call hb4; have hT4 := Lib.hid (Tabs.after hT3.out hb4))
          | (go_at_call 21; (with_reducible refine (HRO.out _).mono ?_); rintro e w5 ⟨x', y', rfl, hX', hb5⟩; have hL5 := hL4.call hb5; have hX5 := hX.call hb5; have hT5 := Lib.hid (Tabs.after hT4.out hb5))
          | (go_at_call 22; (with_reducible refine (HSM.out _ _ _ _ _ hX5 hX').mono ?_); rintro e w6 ⟨rfl, hb6⟩; have hL6 := hL5.call hb6; have hT6 := Lib.hid (Tabs.after hT5.out hb6))
          | (go_at_call 9; (with_reducible refine (alive_any _ hT6.out).mono ?_); rintro e w7 ⟨rfl, hb7⟩; have hL7 := hL6.call hb7)
          | (go_at_call 23; (with_reducible refine (HRM.out _ _ _ hL7).mono ?_); rintro e w8 ⟨rfl, rfl⟩)
          | (go_at_call 24; (with_reducible refine (HRC.out _ _ _ hL7).mono ?_); rintro e w9 ⟨rfl, hb9⟩))
      go_ret
      refine ⟨rfl, ?_⟩
      repeat (first | exact hb | refine bthen ?_ (by assumption))
    | false =>
      rw [hm] at hrm
      have hcl := fun a c W (hW : HasStrs W a c L) => close_bad a c L W hW hm
      have HCL := Lib.hid hcl
      have HRM := Lib.hid hrm
      clear hcl hrm hm
      go_wp2_with (first
          | (go_at_call 19; (with_reducible refine (HCL.out _ _ _ hL).mono ?_); rintro e w3 ⟨rfl, hb3⟩; have hL3 := hL.call hb3; have hT3 := Lib.hid (Tabs.after HTC.out hb3))
          | (go_at_call 20; (with_reducible refine (HOS.out _ hT3.out).mono ?_); rintro e w4 ⟨x, y, rfl, hX, hb4⟩; have hL4 := hL3.call hb4; have hT4 := Lib.hid (Tabs.after hT3.out hb4))
          | (go_at_call 21; (with_reducible refine (HRO.out _).mono ?_); rintro e w5 ⟨x', y', rfl, hX', hb5⟩; have hL5 := hL4.call hb5; have hX5 := hX.call hb5; have hT5 := Lib.hid (Tabs.after hT4.out hb5))
          | (go_at_call 22; (with_reducible refine (HSM.out _ _ _ _ _ hX5 hX').mono ?_); rintro e w6 ⟨rfl, hb6⟩; have hL6 := hL5.call hb6; have hT6 := Lib.hid (Tabs.after hT5.out hb6))
          | (go_at_call 9; (with_reducible refine (alive_any _ hT6.out).mono ?_); rintro e w7 ⟨rfl, hb7⟩; have hL7 := hL6.call hb7)
          | (go_at_call 23; (with_reducible refine (HRM.out _ _ _ hL7).mono ?_); rintro e w8 ⟨rfl, rfl⟩))
      go_ret
      refine ⟨rfl, ?_⟩
      repeat (first | exact hb | refine bthen ?_ (by assumption))
end Go.Proofs.YtkaojhgdhhkbjaaDoor
