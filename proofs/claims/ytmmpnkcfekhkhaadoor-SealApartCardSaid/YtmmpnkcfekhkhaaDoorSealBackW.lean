/- SealBack: for every row of texts and every text: what is sealed is opened as it was; what a text opens to, sealed again, is that text. The card: the two tables of constants hold what the program's text lays. -/
import Derived.Test.YtmmpnkcfekhkhaaDoorSealM
import Derived.Test.YtmmpnkcfekhkhaaDoorTabs
import Derived.Test.YtmmpnkcfekhkhaaDoorFew2
import Derived.Test.YtmmpnkcfekhkhaaDoorRMay
import Derived.ProofKit
import Derived.OpenShut
import Derived.ShutString
import Derived.ChangeOld
import Derived.Below
import Derived.SevenTiedAt
import Derived.Deep.DeepCutAuto
import Derived.Deep.RegionHeld3
namespace Go.Proofs.YtmmpnkcfekhkhaaDoor
open Go.ChangeShapes Go.WideShapes Go.ChangeAt Go.RowKit
open Go.ChangeMaps (open_string shut_string)

theorem same_same (a a' : Option Addr) (c c' : Nat) (ss : List ByteArray) (w : World) (h : HasStrs w a c ss) (h' : HasStrs w a' c' ss) :
    Calls Tryd.prog 22 #[.slice a ss.length c, .slice a' ss.length c'] w (SamePost true w) := by
  have := same_any a a' c c' ss ss w h h'
  rw [decide_eq_true rfl] at this
  exact this

set_option maxHeartbeats 3200000 in
set_option maxRecDepth 100000 in
theorem sealBack_walk (a0 : Option Addr) (len0 cap0 : Nat) (ss0 : List ByteArray) (w : World) (w0 : ss0.length = len0 ∧ HasStrs w a0 cap0 ss0) (a1 : ByteArray) (w1 : a1.size ≤ maxLen) (hT : Tabs w) :
    Calls Tryd.prog 5 #[.slice a0 len0 cap0, .string a1] w fun e w' => e = .returned (.bool true) ∧ Below w.heap.size w w' := by
  obtain ⟨rfl, h0⟩ := w0
  unfold maxLen at w1
  have HT := Lib.hid hT
  clear hT
  go_enter Tryd.func5, Tryd.ntmps5
  go_upto_region 1 with fail
  go_cut [0, 1] (fun l s wx => ∃ p q s1, l = .slice p (fewL ss0).length q ∧ s = .string s1 ∧ s1.size ≤ 3000 ∧ HasStrs wx p q (fewL ss0) ∧ Below w.heap.size w wx)
  case first =>
    by_cases h2 : a1.size ≤ 3000
    · go_region_with (go_at_call 18; refine (few_any _ _ ss0 _ h0.drew).mono ?_; rintro e w2 ⟨p, q, rfl, hL, hb2⟩)
      all_goals
        go_wp2_with fail
        go_meet
        exact ⟨_, _, _, rfl, rfl, h2, (by assumption), bthen (Below.refl _ _).drew (by assumption)⟩
    · go_region_with (go_at_call 18; refine (few_any _ _ ss0 _ h0.drew).mono ?_; rintro e w2 ⟨p, q, rfl, hL, hb2⟩)
      all_goals
        go_wp2_with fail
        go_meet
        exact ⟨_, _, _, rfl, rfl, by simp; omega, (by assumption), bthen (Below.refl _ _).drew (by assumption)⟩
  case rest =>
    obtain ⟨p, q, s, rfl, rfl, hs, hL, hb⟩ := hcut
    clear h0 w1
    generalize fewL ss0 = L at *
    have hTc := HT.out.call hb HT.out.1 hb.size
    have HTC := Lib.hid hTc
    clear hTc
    have hos := fun W (hW : Tabs W) => open_any s W (by omega) hW
    have hclo := fun a c W (hW : HasStrs W a c L) (hT : Tabs W) => close_any a c L W hW hT
    have hinv : ∀ b, openF s = (b, 0) → mayC b = true ∧ closeS b = s := fun b hb => close_open hb
    have hnil := openF_nil (s := s)
    obtain ⟨T, E, hTE⟩ : ∃ T E, openF s = (T, E) := ⟨_, _, rfl⟩
    rw [hTE] at hos hinv hnil
    have HOS := Lib.hid hos
    clear hos
    have hrm := fun a c W (hW : HasStrs W a c L) => rmay_any a c L W hW
    have hsame := fun a c a' c' W (h1 : HasStrs W a c L) (h2 : HasStrs W a' c' L) => same_same a a' c c' L W h1 h2
    have HSM := Lib.hid hsame
    have HINV := Lib.hid hinv
    clear hsame hinv
    cases hm : mayC L with
    | true =>
      rw [hm] at hrm
      have hop := fun W (hW : Tabs W) => open_any (closeS L) W (by have := closeS_size L; omega) hW
      rw [open_close hm] at hop
      have hcl := fun a c W (hW : HasStrs W a c L) (hT : Tabs W) => close_ok a c L W hW hm hT
      rw [← closeS_true hm] at hcl
      have HOP := Lib.hid hop
      have HCL := Lib.hid hcl
      clear hop hcl hclo hrm hm
      generalize closeS L = C at *
      by_cases hE : E = 0
      · subst hE
        obtain ⟨hmT, hcT⟩ := HINV.out T rfl
        have hcl2 := fun a c W (hW : HasStrs W a c T) (hT : Tabs W) => close_ok a c T W hW hmT hT
        rw [← closeS_true hmT, hcT] at hcl2
        have HCL2 := Lib.hid hcl2
        clear hcl2 hcT hmT hnil HINV hTE
        have hss : (s.toList == s.toList) = true := by simp
        go_wp2_with (first
          | (go_at_call 19; (with_reducible refine (HCL.out _ _ _ hL HTC.out).mono ?_); rintro e w3 ⟨rfl, hb3⟩; have hL3 := hL.call hb3; have hT3 := Lib.hid (Tabs.after HTC.out hb3))
          | (go_at_call 20; (with_reducible refine (HOP.out _ hT3.out).mono ?_); rintro e w4 ⟨x, y, rfl, hX, hb4⟩; have hL4 := hL3.call hb4; have hT4 := Lib.hid (Tabs.after hT3.out hb4))
          | (go_at_call 22; (with_reducible refine (HSM.out _ _ _ _ _ hX hL4).mono ?_); rintro e w5 ⟨rfl, hb5⟩; have hT5 := Lib.hid (Tabs.after hT4.out hb5))
          | (go_at_call 20; (with_reducible refine (HOS.out _ hT5.out).mono ?_); rintro e w6 ⟨x', y', rfl, hX', hb6⟩; have hT6 := Lib.hid (Tabs.after hT5.out hb6))
          | (go_at_call 19; (with_reducible refine (HCL2.out _ _ _ hX' hT6.out).mono ?_); rintro e w7 ⟨rfl, hb7⟩; have hT7 := Lib.hid (Tabs.after hT6.out hb7))
          | (go_at_call 9; (with_reducible refine (alive_any _ hT7.out).mono ?_); rintro e w8 ⟨rfl, hb8⟩))
        go_ret
        refine ⟨rfl, ?_⟩
        repeat (first | exact hb | refine bthen ?_ (by assumption))
      · have hT0 := hnil hE
        simp only [] at hT0
        subst hT0
        have hk2 : ((E : Int) == 0) = false := by rw [beq_eq_false_iff_ne]; omega
        have hk3 : ((E : Int) != 0) = true := by rw [bne_iff_ne]; omega
        clear hnil HINV hTE hE
        go_wp2_with (first
          | (go_at_call 19; (with_reducible refine (HCL.out _ _ _ hL HTC.out).mono ?_); rintro e w3 ⟨rfl, hb3⟩; have hL3 := hL.call hb3; have hT3 := Lib.hid (Tabs.after HTC.out hb3))
          | (go_at_call 20; (with_reducible refine (HOP.out _ hT3.out).mono ?_); rintro e w4 ⟨x, y, rfl, hX, hb4⟩; have hL4 := hL3.call hb4; have hT4 := Lib.hid (Tabs.after hT3.out hb4))
          | (go_at_call 22; (with_reducible refine (HSM.out _ _ _ _ _ hX hL4).mono ?_); rintro e w5 ⟨rfl, hb5⟩; have hT5 := Lib.hid (Tabs.after hT4.out hb5))
          | (go_at_call 20; (with_reducible refine (HOS.out _ hT5.out).mono ?_); rintro e w6 ⟨x', y', rfl, hX', hb6⟩; have hT6 := Lib.hid (Tabs.after hT5.out hb6))
          | (go_at_call 9; (with_reducible refine (alive_any _ hT6.out).mono ?_); rintro e w8 ⟨rfl, hb8⟩))
        go_ret
        refine ⟨rfl, ?_⟩
        repeat (first | exact hb | refine bthen ?_ (by assumption))
    | false =>
      rw [hm] at hrm
      have hcl := fun a c W (hW : HasStrs W a c L) => close_bad a c L W hW hm
      have HCL := Lib.hid hcl
      have HRM := Lib.hid hrm
      clear hcl hclo hrm hm
      by_cases hE : E = 0
      · subst hE
        obtain ⟨hmT, hcT⟩ := HINV.out T rfl
        have hcl2 := fun a c W (hW : HasStrs W a c T) (hT : Tabs W) => close_ok a c T W hW hmT hT
        rw [← closeS_true hmT, hcT] at hcl2
        have HCL2 := Lib.hid hcl2
        clear hcl2 hcT hmT hnil HINV hTE
        have hss : (s.toList == s.toList) = true := by simp
        go_wp2_with (first
          | (go_at_call 19; (with_reducible refine (HCL.out _ _ _ hL).mono ?_); rintro e w3 ⟨rfl, hb3⟩; have hL3 := hL.call hb3; have hT3 := Lib.hid (Tabs.after HTC.out hb3))
          | (go_at_call 23; (with_reducible refine (HRM.out _ _ _ hL3).mono ?_); rintro e w5 ⟨rfl, rfl⟩)
          | (go_at_call 20; (with_reducible refine (HOS.out _ hT3.out).mono ?_); rintro e w6 ⟨x', y', rfl, hX', hb6⟩; have hT6 := Lib.hid (Tabs.after hT3.out hb6))
          | (go_at_call 19; (with_reducible refine (HCL2.out _ _ _ hX' hT6.out).mono ?_); rintro e w7 ⟨rfl, hb7⟩; have hT7 := Lib.hid (Tabs.after hT6.out hb7))
          | (go_at_call 9; (with_reducible refine (alive_any _ hT7.out).mono ?_); rintro e w8 ⟨rfl, hb8⟩))
        go_ret
        refine ⟨rfl, ?_⟩
        repeat (first | exact hb | refine bthen ?_ (by assumption))
      · have hT0 := hnil hE
        simp only [] at hT0
        subst hT0
        have hk2 : ((E : Int) == 0) = false := by rw [beq_eq_false_iff_ne]; omega
        have hk3 : ((E : Int) != 0) = true := by rw [bne_iff_ne]; omega
        clear hnil HINV hTE hE
        go_wp2_with (first
          | (go_at_call 19; (with_reducible refine (HCL.out _ _ _ hL).mono ?_); rintro e w3 ⟨rfl, hb3⟩; have hL3 := hL.call hb3; have hT3 := Lib.hid (Tabs.after HTC.out hb3))
          | (go_at_call 23; (with_reducible refine (HRM.out _ _ _ hL3).mono ?_); rintro e w5 ⟨rfl, rfl⟩)
          | (go_at_call 20; (with_reducible refine (HOS.out _ hT3.out).mono ?_); rintro e w6 ⟨x', y', rfl, hX', hb6⟩; have hT6 := Lib.hid (Tabs.after hT3.out hb6))
          | (go_at_call 9; (with_reducible refine (alive_any _ hT6.out).mono ?_); rintro e w8 ⟨rfl, hb8⟩))
        go_ret
        refine ⟨rfl, ?_⟩
        repeat (first | exact hb | refine bthen ?_ (by assumption))
end Go.Proofs.YtmmpnkcfekhkhaaDoor
