/- FrameBack: for every integer, all rows of texts and every text behind, numbers and texts that are bound are read as they were, and unlike texts are bound to unlike ones. No condition. -/
import Derived.Test.YtpgakhdcbkcmdaaAlive
import Derived.Test.YtpgakhdcbkcmdaaBind3
import Derived.Test.YtpgakhdcbkcmdaaMath3
import Derived.ProofKit
import Derived.OpenShut
import Derived.ShutString
import Derived.ChangeOld
import Derived.Below
import Derived.Deep.DeepCutAuto
import Derived.Deep.RegionHeld3
namespace Go.Proofs.Ytpgakhdcbkcmdaa
open Go.ChangeShapes Go.WideShapes Go.ChangeAt Go.RowKit
open Go.ChangeMaps (open_string shut_string)

set_option maxHeartbeats 3200000 in
set_option maxRecDepth 100000 in
theorem frameBack_walk (a0 : Int) (w0 : (Lit.int .i64 a0).wf = true) (a1 : Option Addr) (len1 cap1 : Nat) (ss1 : List ByteArray) (w : World) (w1 : ss1.length = len1 ∧ HasStrs w a1 cap1 ss1)
    (a2 : Option Addr) (len2 cap2 : Nat) (ss2 : List ByteArray) (w2 : ss2.length = len2 ∧ HasStrs w a2 cap2 ss2) (a3 : ByteArray) (w3 : a3.size ≤ maxLen) :
    Calls Try.prog 6 #[.int .i64 a0, .slice a1 len1 cap1, .slice a2 len2 cap2, .string a3] w fun e w' => e = .returned (.bool true) ∧ Below w.heap.size w w' := by
  obtain ⟨rfl, h1⟩ := w1
  obtain ⟨rfl, h2⟩ := w2
  have bd := bounds_i64 w0
  unfold maxLen at w3
  clear w0
  go_enter Try.func6, Try.ntmps6
  go_upto_region 1 with fail
  go_cut [1, 2, 3] (fun l m s wx => ∃ p q p' q' s1, l = .slice p (fewL ss1).length q ∧ m = .slice p' (fewL ss2).length q' ∧ s = .string s1 ∧ s1.size ≤ 20 ∧ HasStrs wx p q (fewL ss1) ∧ HasStrs wx p' q' (fewL ss2) ∧ Below w.heap.size w wx)
  case first =>
    by_cases h20 : a3.size ≤ 20
    all_goals
      go_region_with (first
        | (go_at_call_of 18 (Value.slice a1 ss1.length cap1); refine (few_any _ _ ss1 _ h1.drew).mono ?_; rintro e w4 ⟨p, q, rfl, hL, hb4⟩; have h2' := h2.drew.call hb4)
        | (go_at_call_of 18 (Value.slice a2 ss2.length cap2); refine (few_any _ _ ss2 _ h2').mono ?_; rintro e w5 ⟨p', q', rfl, hM, hb5⟩; have hL' := hL.call hb5))
      all_goals
        go_wp2_with fail
        go_meet
        exact ⟨_, _, _, _, _, rfl, rfl, rfl, (by first | omega | (simp; omega)), (by assumption), (by assumption), bthen (bthen (Below.refl _ _).drew (by assumption)) (by assumption)⟩
  case rest =>
    obtain ⟨p, q, p', q', r, rfl, rfl, rfl, hr, hL, hM, hb⟩ := hcut
    clear h1 h2 w3
    have l1 := fewL_len ss1
    have l2 := fewL_len ss2
    have s1 := fewL_size ss1
    have s2 := fewL_size ss2
    generalize fewL ss1 = L at *
    generalize fewL ss2 = M at *
    have hbig := bindS_size L l1 s1
    have hlo := fun W => loose_any (bindS L) W (by unfold maxLen; omega)
    have HLO := Lib.hid hlo
    clear hlo hbig l1 l2 s1 s2
    by_cases hbad : a0 < 0 ∨ 4611686018427387904 ≤ a0
    · go_upto_region 7 with (go_at_call 10; refine (number_bad _ _ hbad).mono ?_; rintro e w6 ⟨rfl, rfl⟩)
      clear hbad bd
      have hL6 := hL
      have hM6 := hM
      have hbq := hb
      by_cases m0 : mayB L = true
      · have e0 : bindE L = 0 := by rw [bindE, if_pos m0]
        have y0 : bindS L = ⟨(bindL L).toArray⟩ := by rw [bindS, if_pos m0]
        have hlo2 := HLO.out
        rw [show loose (bindS L) = (L, 0) by rw [y0]; exact loose_bind m0] at hlo2
        have hs1 := fun a a' c c' W h h' => same_any a a' c c' L L W h h'
        have hs2 := fun a a' c c' W h h' => same_any a a' c c' L M W h h'
        rw [decide_eq_true (rfl : L = L)] at hs1
        clear HLO
        by_cases m1 : mayB M = true
        · have e1 : bindE M = 0 := by rw [bindE, if_pos m1]
          have y1 : bindS M = ⟨(bindL M).toArray⟩ := by rw [bindS, if_pos m1]
          have heq : ((bindS L).toList == (bindS M).toList) = decide (L = M) := by
            rw [ByteArray.toList_eq, ByteArray.toList_eq, y0, y1]
            by_cases hLM : L = M
            · subst hLM; simp
            · rw [decide_eq_false hLM, beq_eq_false_iff_ne]
              intro h
              exact hLM (bind_inj m0 m1 h)
          generalize decide (L = M) = B at *
          have HLO := Lib.hid hlo2
          have HS1 := Lib.hid hs1
          have HS2 := Lib.hid hs2
          have HEQ := Lib.hid heq
          generalize hE0 : bindE L = E0 at *
          generalize hE1 : bindE M = E1 at *
          subst e0 e1
          clear hlo2 hs1 hs2 heq y0 y1 m0 m1
          have hq := HEQ.out
          cases B with
          | true =>
            go_wp2_with (first
              | (go_at_call_of 19 (Value.slice p L.length q); refine (bind_any _ _ L _ hL6).mono ?_; rintro e w7 ⟨rfl, hb7⟩; have hL7 := hL6.call hb7; have hM7 := hM6.call hb7)
              | (go_at_call_of 19 (Value.slice p' M.length q'); refine (bind_any _ _ M _ hM7).mono ?_; rintro e w8 ⟨rfl, hb8⟩; have hL8 := hL7.call hb8; have hM8 := hM7.call hb8)
              | (go_at_call 20; refine (HLO.out _).mono ?_; rintro e w9 ⟨x, y, rfl, hT, hb9⟩; have hL9 := hL8.call hb9; have hM9 := hM8.call hb9)
              | (go_at_call_of 22 (Value.slice x L.length y); refine (HS1.out _ _ _ _ _ hT hL9).mono ?_; rintro e wA ⟨rfl, hbA⟩; have hL10 := hL9.call hbA; have hM10 := hM9.call hbA)
              | (go_at_call 13; refine (alive_any _).mono ?_; rintro e wC ⟨rfl, hbC⟩; have hL11 := hL10.call hbC; have hM11 := hM10.call hbC)
              | (go_at_call_of 22 (Value.slice p L.length q); refine (HS2.out _ _ _ _ _ hL11 hM11).mono ?_; rintro e wD ⟨rfl, hbD⟩))
            go_ret
            refine ⟨rfl, ?_⟩
            repeat (first | exact hbq | refine bthen ?_ (by assumption))
          | false =>
            go_wp2_with (first
              | (go_at_call_of 19 (Value.slice p L.length q); refine (bind_any _ _ L _ hL6).mono ?_; rintro e w7 ⟨rfl, hb7⟩; have hL7 := hL6.call hb7; have hM7 := hM6.call hb7)
              | (go_at_call_of 19 (Value.slice p' M.length q'); refine (bind_any _ _ M _ hM7).mono ?_; rintro e w8 ⟨rfl, hb8⟩; have hL8 := hL7.call hb8; have hM8 := hM7.call hb8)
              | (go_at_call 20; refine (HLO.out _).mono ?_; rintro e w9 ⟨x, y, rfl, hT, hb9⟩; have hL9 := hL8.call hb9; have hM9 := hM8.call hb9)
              | (go_at_call_of 22 (Value.slice x L.length y); refine (HS1.out _ _ _ _ _ hT hL9).mono ?_; rintro e wA ⟨rfl, hbA⟩; have hL10 := hL9.call hbA; have hM10 := hM9.call hbA)
              | (go_at_call 13; refine (alive_any _).mono ?_; rintro e wC ⟨rfl, hbC⟩; have hL11 := hL10.call hbC; have hM11 := hM10.call hbC)
              | (go_at_call_of 22 (Value.slice p L.length q); refine (HS2.out _ _ _ _ _ hL11 hM11).mono ?_; rintro e wD ⟨rfl, hbD⟩))
            go_ret
            refine ⟨rfl, ?_⟩
            repeat (first | exact hbq | refine bthen ?_ (by assumption))
        · have e1 : bindE M = 2 := by rw [bindE, if_neg m1]
          have HLO := Lib.hid hlo2
          have HS1 := Lib.hid hs1
          generalize hE0 : bindE L = E0 at *
          generalize hE1 : bindE M = E1 at *
          subst e0 e1
          clear hlo2 hs1 hs2 y0 m0 m1
          go_wp2_with (first
            | (go_at_call_of 19 (Value.slice p L.length q); refine (bind_any _ _ L _ hL6).mono ?_; rintro e w7 ⟨rfl, hb7⟩; have hL7 := hL6.call hb7; have hM7 := hM6.call hb7)
            | (go_at_call_of 19 (Value.slice p' M.length q'); refine (bind_any _ _ M _ hM7).mono ?_; rintro e w8 ⟨rfl, hb8⟩; have hL8 := hL7.call hb8; have hM8 := hM7.call hb8)
            | (go_at_call 20; refine (HLO.out _).mono ?_; rintro e w9 ⟨x, y, rfl, hT, hb9⟩; have hL9 := hL8.call hb9; have hM9 := hM8.call hb9)
            | (go_at_call_of 22 (Value.slice x L.length y); refine (HS1.out _ _ _ _ _ hT hL9).mono ?_; rintro e wA ⟨rfl, hbA⟩; have hL10 := hL9.call hbA; have hM10 := hM9.call hbA)
            | (go_at_call 13; refine (alive_any _).mono ?_; rintro e wC ⟨rfl, hbC⟩; have hL11 := hL10.call hbC; have hM11 := hM10.call hbC))
          go_ret
          refine ⟨rfl, ?_⟩
          repeat (first | exact hbq | refine bthen ?_ (by assumption))
      · have e0 : bindE L = 2 := by rw [bindE, if_neg m0]
        have hma := fun a c W h => may_any a c L W h
        rw [show mayB L = false by simpa using m0] at hma
        have HMA := Lib.hid hma
        generalize hE0 : bindE L = E0 at *
        subst e0
        clear hma m0
        go_wp2_with (first
          | (go_at_call_of 19 (Value.slice p L.length q); refine (bind_any _ _ L _ hL6).mono ?_; rintro e w7 ⟨rfl, hb7⟩; have hL7 := hL6.call hb7; have hM7 := hM6.call hb7)
          | (go_at_call_of 19 (Value.slice p' M.length q'); refine (bind_any _ _ M _ hM7).mono ?_; rintro e w8 ⟨rfl, hb8⟩; have hL8 := hL7.call hb8; have hM8 := hM7.call hb8)
          | (go_at_call 20; refine (HLO.out _).mono ?_; rintro e w9 ⟨x, y, rfl, hT, hb9⟩; have hL9 := hL8.call hb9; have hM9 := hM8.call hb9)
          | (go_at_call 23; refine (HMA.out _ _ _ hL9).mono ?_; rintro e wB ⟨rfl, rfl⟩)
          | (go_at_call 13; refine (alive_any _).mono ?_; rintro e wC ⟨rfl, hbC⟩; have hL11 := hL9.call hbC; have hM11 := hM9.call hbC))
        go_ret
        refine ⟨rfl, ?_⟩
        repeat (first | exact hbq | refine bthen ?_ (by assumption))
    · obtain ⟨n, rfl⟩ := Int.eq_ofNat_of_zero_le (show 0 ≤ a0 by omega)
      have hn : n < 4611686018427387904 := by omega
      have hl9 := numB_len9 (n := n) (by omega)
      clear hbad bd
      have hnum := fun W => number_any n W hn
      obtain ⟨z, hz⟩ : ∃ z : ByteArray, z = ⟨(numB n).toArray⟩ := ⟨_, rfl⟩
      have hzd : z.data.toList = numB n := by rw [hz]
      have hzs : z.size = (numB n).length := by rw [size_list, hzd]
      have hz9 : z.size ≤ 9 := by omega
      rw [← hz] at hnum
      have hread := fun W => read_any (z ++ r) W (by unfold maxLen; rw [ByteArray.size_append]; omega)
      rw [data_app, hzd, rd_num hn, ← hzs] at hread
      simp only [] at hread
      have HN := Lib.hid hnum
      have HR := Lib.hid hread
      clear hnum hread hz hzd hzs hl9
      go_upto_region 7 with (first | (go_at_call 10; refine (HN.out _).mono ?_; rintro e w6 ⟨rfl, hb6⟩) | (go_at_call 11; refine (HR.out _).mono ?_; rintro e w6' ⟨rfl, rfl⟩))
      have hL6 := hL.call hb6
      have hM6 := hM.call hb6
      have hbq := bthen hb hb6
      clear hL hM hb hb6 HN HR
      by_cases m0 : mayB L = true
      · have e0 : bindE L = 0 := by rw [bindE, if_pos m0]
        have y0 : bindS L = ⟨(bindL L).toArray⟩ := by rw [bindS, if_pos m0]
        have hlo2 := HLO.out
        rw [show loose (bindS L) = (L, 0) by rw [y0]; exact loose_bind m0] at hlo2
        have hs1 := fun a a' c c' W h h' => same_any a a' c c' L L W h h'
        have hs2 := fun a a' c c' W h h' => same_any a a' c c' L M W h h'
        rw [decide_eq_true (rfl : L = L)] at hs1
        clear HLO
        by_cases m1 : mayB M = true
        · have e1 : bindE M = 0 := by rw [bindE, if_pos m1]
          have y1 : bindS M = ⟨(bindL M).toArray⟩ := by rw [bindS, if_pos m1]
          have heq : ((bindS L).toList == (bindS M).toList) = decide (L = M) := by
            rw [ByteArray.toList_eq, ByteArray.toList_eq, y0, y1]
            by_cases hLM : L = M
            · subst hLM; simp
            · rw [decide_eq_false hLM, beq_eq_false_iff_ne]
              intro h
              exact hLM (bind_inj m0 m1 h)
          generalize decide (L = M) = B at *
          have HLO := Lib.hid hlo2
          have HS1 := Lib.hid hs1
          have HS2 := Lib.hid hs2
          have HEQ := Lib.hid heq
          generalize hE0 : bindE L = E0 at *
          generalize hE1 : bindE M = E1 at *
          subst e0 e1
          clear hlo2 hs1 hs2 heq y0 y1 m0 m1
          have hq := HEQ.out
          cases B with
          | true =>
            go_wp2_with (first
              | (go_at_call_of 19 (Value.slice p L.length q); refine (bind_any _ _ L _ hL6).mono ?_; rintro e w7 ⟨rfl, hb7⟩; have hL7 := hL6.call hb7; have hM7 := hM6.call hb7)
              | (go_at_call_of 19 (Value.slice p' M.length q'); refine (bind_any _ _ M _ hM7).mono ?_; rintro e w8 ⟨rfl, hb8⟩; have hL8 := hL7.call hb8; have hM8 := hM7.call hb8)
              | (go_at_call 20; refine (HLO.out _).mono ?_; rintro e w9 ⟨x, y, rfl, hT, hb9⟩; have hL9 := hL8.call hb9; have hM9 := hM8.call hb9)
              | (go_at_call_of 22 (Value.slice x L.length y); refine (HS1.out _ _ _ _ _ hT hL9).mono ?_; rintro e wA ⟨rfl, hbA⟩; have hL10 := hL9.call hbA; have hM10 := hM9.call hbA)
              | (go_at_call 13; refine (alive_any _).mono ?_; rintro e wC ⟨rfl, hbC⟩; have hL11 := hL10.call hbC; have hM11 := hM10.call hbC)
              | (go_at_call_of 22 (Value.slice p L.length q); refine (HS2.out _ _ _ _ _ hL11 hM11).mono ?_; rintro e wD ⟨rfl, hbD⟩))
            go_ret
            refine ⟨rfl, ?_⟩
            repeat (first | exact hbq | refine bthen ?_ (by assumption))
          | false =>
            go_wp2_with (first
              | (go_at_call_of 19 (Value.slice p L.length q); refine (bind_any _ _ L _ hL6).mono ?_; rintro e w7 ⟨rfl, hb7⟩; have hL7 := hL6.call hb7; have hM7 := hM6.call hb7)
              | (go_at_call_of 19 (Value.slice p' M.length q'); refine (bind_any _ _ M _ hM7).mono ?_; rintro e w8 ⟨rfl, hb8⟩; have hL8 := hL7.call hb8; have hM8 := hM7.call hb8)
              | (go_at_call 20; refine (HLO.out _).mono ?_; rintro e w9 ⟨x, y, rfl, hT, hb9⟩; have hL9 := hL8.call hb9; have hM9 := hM8.call hb9)
              | (go_at_call_of 22 (Value.slice x L.length y); refine (HS1.out _ _ _ _ _ hT hL9).mono ?_; rintro e wA ⟨rfl, hbA⟩; have hL10 := hL9.call hbA; have hM10 := hM9.call hbA)
              | (go_at_call 13; refine (alive_any _).mono ?_; rintro e wC ⟨rfl, hbC⟩; have hL11 := hL10.call hbC; have hM11 := hM10.call hbC)
              | (go_at_call_of 22 (Value.slice p L.length q); refine (HS2.out _ _ _ _ _ hL11 hM11).mono ?_; rintro e wD ⟨rfl, hbD⟩))
            go_ret
            refine ⟨rfl, ?_⟩
            repeat (first | exact hbq | refine bthen ?_ (by assumption))
        · have e1 : bindE M = 2 := by rw [bindE, if_neg m1]
          have HLO := Lib.hid hlo2
          have HS1 := Lib.hid hs1
          generalize hE0 : bindE L = E0 at *
          generalize hE1 : bindE M = E1 at *
          subst e0 e1
          clear hlo2 hs1 hs2 y0 m0 m1
          go_wp2_with (first
            | (go_at_call_of 19 (Value.slice p L.length q); refine (bind_any _ _ L _ hL6).mono ?_; rintro e w7 ⟨rfl, hb7⟩; have hL7 := hL6.call hb7; have hM7 := hM6.call hb7)
            | (go_at_call_of 19 (Value.slice p' M.length q'); refine (bind_any _ _ M _ hM7).mono ?_; rintro e w8 ⟨rfl, hb8⟩; have hL8 := hL7.call hb8; have hM8 := hM7.call hb8)
            | (go_at_call 20; refine (HLO.out _).mono ?_; rintro e w9 ⟨x, y, rfl, hT, hb9⟩; have hL9 := hL8.call hb9; have hM9 := hM8.call hb9)
            | (go_at_call_of 22 (Value.slice x L.length y); refine (HS1.out _ _ _ _ _ hT hL9).mono ?_; rintro e wA ⟨rfl, hbA⟩; have hL10 := hL9.call hbA; have hM10 := hM9.call hbA)
            | (go_at_call 13; refine (alive_any _).mono ?_; rintro e wC ⟨rfl, hbC⟩; have hL11 := hL10.call hbC; have hM11 := hM10.call hbC))
          go_ret
          refine ⟨rfl, ?_⟩
          repeat (first | exact hbq | refine bthen ?_ (by assumption))
      · have e0 : bindE L = 2 := by rw [bindE, if_neg m0]
        have hma := fun a c W h => may_any a c L W h
        rw [show mayB L = false by simpa using m0] at hma
        have HMA := Lib.hid hma
        generalize hE0 : bindE L = E0 at *
        subst e0
        clear hma m0
        go_wp2_with (first
          | (go_at_call_of 19 (Value.slice p L.length q); refine (bind_any _ _ L _ hL6).mono ?_; rintro e w7 ⟨rfl, hb7⟩; have hL7 := hL6.call hb7; have hM7 := hM6.call hb7)
          | (go_at_call_of 19 (Value.slice p' M.length q'); refine (bind_any _ _ M _ hM7).mono ?_; rintro e w8 ⟨rfl, hb8⟩; have hL8 := hL7.call hb8; have hM8 := hM7.call hb8)
          | (go_at_call 20; refine (HLO.out _).mono ?_; rintro e w9 ⟨x, y, rfl, hT, hb9⟩; have hL9 := hL8.call hb9; have hM9 := hM8.call hb9)
          | (go_at_call 23; refine (HMA.out _ _ _ hL9).mono ?_; rintro e wB ⟨rfl, rfl⟩)
          | (go_at_call 13; refine (alive_any _).mono ?_; rintro e wC ⟨rfl, hbC⟩; have hL11 := hL9.call hbC; have hM11 := hM9.call hbC))
        go_ret
        refine ⟨rfl, ?_⟩
        repeat (first | exact hbq | refine bthen ?_ (by assumption))

set_option maxRecDepth 100000 in
theorem frameBack_lifted (os : Os) (started : os.Started) (H : Type) (enc : TypeId × Value → H) :
    ReturnsInHanded {} Try.checked os 6 .any (Rows.frameBackSpec.pre6 enc Try.prog Try.f6 Rows.frameBackRow.domain false) (Rows.frameBackSpec.post enc Try.prog Try.f6 false true false false) := by
  refine returnsInHanded_of_change (C := Try.checked) (by kernel_rfl) started (by kernel_rfl) Try.func6
    (ChangeSpec.witness6 (enc := enc) (C := Try.checked) false ⟨#[], #[.int .i64 0, .slice none 0 0, .slice none 0 0, .string ByteArray.empty], []⟩ 8 (by kernel_rfl) (by kernel_rfl) (by kernel_rfl) (by kernel_rfl)) ?_
  intro W base args ds gs before hval0 hW hcnd _
  have hval : ∀ (j : Nat) t v, Try.f6.params[j]? = some t → args[j]? = some v → Value.okWide Try.prog W .any base t v := hval0
  have hW' := hW
  obtain ⟨p, q, hA0, hV, rfl, hfz, hnd⟩ := hW
  have hA : DataW.TrodAll enc Try.prog W 0 (fun _ => true) true Try.f6.params.toList args.toList ds p := hA0
  rw [Try.params6] at hA hval
  obtain ⟨v0, vs0, d0, ds0, p0, q0, hargs, rfl, rfl, h0, r0⟩ := trodAll_cons hA
  obtain ⟨v1, vs1, d1, ds1, p1, q1, rfl, rfl, rfl, h1, r1⟩ := trodAll_cons r0
  obtain ⟨v2, vs2, d2, ds2, p2, q2, rfl, rfl, rfl, h2, r2⟩ := trodAll_cons r1
  obtain ⟨v3, vs3, d3, ds3, p3, q3, rfl, rfl, rfl, h3, r3⟩ := trodAll_cons r2
  obtain ⟨rfl, rfl, rfl⟩ := trodAll_nil r3
  obtain rfl : args = #[v0, v1, v2, v3] := by cases args; simp_all
  obtain ⟨rfl, rfl⟩ := trodVars_none hV
  obtain ⟨a0, rfl, rfl, rfl, w0⟩ := open_int Try.underlying3 (hval 0 3 v0 rfl rfl) h0
  obtain ⟨a1, len1, cap1, rfl⟩ := okWide_slice Try.underlying38 (hval 1 38 v1 rfl rfl)
  have k1 := h1
  have lt1 : ∀ x ∈ p1, x.block < W.heap.size := by obtain ⟨m, hm⟩ := k1; exact DataW.trod_lt m _ _ _ hm
  obtain ⟨ss1, w1⟩ := strArg_of Try.underlying38 Try.underlying9 (by kernel_rfl) h1
  obtain ⟨a2, len2, cap2, rfl⟩ := okWide_slice Try.underlying38 (hval 2 38 v2 rfl rfl)
  have k2 := h2
  have lt2 : ∀ x ∈ p2, x.block < W.heap.size := by obtain ⟨m, hm⟩ := k2; exact DataW.trod_lt m _ _ _ hm
  obtain ⟨ss2, w2⟩ := strArg_of Try.underlying38 Try.underlying9 (by kernel_rfl) h2
  obtain ⟨a3, rfl, rfl, rfl, w3⟩ := open_string Try.underlying9 (hval 3 9 v3 rfl rfl) h3
  clear hA0 hval0
  refine (frameBack_walk (w := W) a0 w0 a1 len1 cap1 ss1 w1 a2 len2 cap2 ss2 w2 a3 w3).mono fun e W' ⟨he, bel⟩ => ?_
  subst he
  exact ⟨_, rfl, _, _, _, [], _, [], hW', trodAll_mk1 (shut_bool Try.underlying4 _), (trodAll_cons_mk (shut_int Try.underlying3 w0) (trodAll_cons_mk (Below.trod (by kernel_rfl) (by kernel_rfl) (of_decide_eq_true (by kernel_rfl)) k1 bel lt1) (trodAll_cons_mk (Below.trod (by kernel_rfl) (by kernel_rfl) (of_decide_eq_true (by kernel_rfl)) k2 bel lt2) (trodAll_cons_mk (shut_string Try.underlying9 w3) trodAll_mk0)))), rfl, bel.frame _, fun h => by cases h⟩

theorem frameBack_over : Rows.frameBackRow.holds Try.pinned (OpenSpec.ofChange Rows.frameBackSpec) :=
  OpenClaim.holds_of_wide 6 Try.f6 rfl rfl rfl rfl rfl rfl rfl ⟨rfl, rfl, rfl, rfl, rfl⟩ rfl rfl rfl rfl rfl (by kernel_rfl) Try.func6 (by kernel_rfl)
    (of_decide_eq_true (by kernel_rfl)) (by unfold Func.isWrapper; first | (rw [if_pos (by decide +kernel)]; kernel_rfl) | (rw [if_neg (by decide +kernel)]; exact ⟨rfl, rfl⟩))
    (fun os started H enc _ => frameBack_lifted os started H enc)

/-- THE STATEMENT -/
theorem frameBack_holds : Rows.FrameBackSaid := frameBack_over
#print axioms frameBack_holds
end Go.Proofs.Ytpgakhdcbkcmdaa
