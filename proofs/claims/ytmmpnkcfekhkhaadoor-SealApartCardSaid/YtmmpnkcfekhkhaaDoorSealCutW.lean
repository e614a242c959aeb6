/- SealCut: for every row of texts: what is sealed, cut anywhere, or with more behind it, is not opened as these. The card: the two tables of constants hold what the program's text lays. -/
import Derived.Test.YtmmpnkcfekhkhaaDoorSealBackW
import Derived.Test.YtmmpnkcfekhkhaaDoorTabs
import Derived.Test.YtmmpnkcfekhkhaaDoorFew2
import Derived.Test.YtmmpnkcfekhkhaaDoorRMay
import Derived.ProofKit
import Derived.OpenShut
import Derived.ShutString
import Derived.ChangeOld
import Derived.Below
import Derived.SevenTiedAt
import Derived.Deep.DeepCutAuto
import Derived.Deep.RegionHeld3
import Derived.Test.YtmmpnkcfekhkhaaDoorLater
namespace Go.Proofs.YtmmpnkcfekhkhaaDoor
open Go.ChangeShapes Go.WideShapes Go.ChangeAt Go.RowKit
open Go.ChangeMaps (open_string shut_string)

theorem HasStrs.drewN {w : World} {a : Option Addr} {c : Nat} {ss : List ByteArray} (h : HasStrs w a c ss) (n : Nat) : HasStrs (w.drewN n) a c ss := h
theorem same_dec (a a' : Option Addr) (c c' : Nat) (ss ts : List ByteArray) (B : Bool) (w : World) (h : HasStrs w a c ss) (h' : HasStrs w a' c' ts) (hB : decide (ss = ts) = B) :
    Calls Tryd.prog 22 #[.slice a ss.length c, .slice a' ts.length c'] w (SamePost B w) := by
  rw [← hB]; exact same_any a a' c c' ss ts w h h'

set_option maxHeartbeats 3200000 in
set_option maxRecDepth 100000 in
theorem sealCut_walk (a0 : Option Addr) (len0 cap0 : Nat) (ss0 : List ByteArray) (w : World) (w0 : ss0.length = len0 ∧ HasStrs w a0 cap0 ss0) (a1 : Int) (w1 : (Lit.int .i64 a1).wf = true) (a2 : ByteArray) (w2 : a2.size ≤ maxLen) (hT : Tabs w) :
    Calls Tryd.prog 8 #[.slice a0 len0 cap0, .int .i64 a1, .string a2] w fun e w' => e = .returned (.bool true) ∧ Below w.heap.size w w' := by
  obtain ⟨rfl, h0⟩ := w0
  unfold maxLen at w2
  have HT := Lib.hid hT
  clear hT
  go_enter Tryd.func8, Tryd.ntmps8
  go_upto_region 1 with fail
  go_cut [0, 2] (fun l s wx => ∃ p q s1, l = .slice p (fewL ss0).length q ∧ s = .string s1 ∧ s1.size ≤ 20 ∧ HasStrs wx p q (fewL ss0) ∧ Below w.heap.size w wx)
  case first =>
    by_cases h2 : a2.size ≤ 20
    · go_region_with (go_at_call 18; refine (few_any _ _ ss0 _ h0.drew).mono ?_; rintro e w2 ⟨p, q, rfl, hL, hb2⟩)
      all_goals
        go_wp2_with fail
        go_meet
        exact ⟨_, _, _, rfl, rfl, h2, (by assumption), bthen (Below.refl _ _).drew (by assumption)⟩
    · go_region_with (go_at_call 18; refine (few_any _ _ ss0 _ h0.drew).mono ?_; rintro e w2 ⟨p, q, rfl, hL, hb2⟩)
      all_goals
        go_wp2_with fail
        go_meet
        exact ⟨_, _, _, rfl, rfl, by simp; omega, (by assumption), bthen (Below.refl _ _).drew (by assumption)⟩
  case rest =>
    obtain ⟨p, q, s, rfl, rfl, hs, hL, hb⟩ := hcut
    clear h0 w2
    generalize fewL ss0 = L at *
    have hTc := HT.out.call hb HT.out.1 hb.size
    have HTC := Lib.hid hTc
    clear hTc
    cases hm : mayC L with
    | false =>
      have hcl := fun a c W (hW : HasStrs W a c L) => close_bad a c L W hW hm
      have HCL := Lib.hid hcl
      clear hcl hm
      go_wp2_with (first
        | (go_at_call 19; (with_reducible refine (HCL.out _ _ _ hL).mono ?_); rintro e w3 ⟨rfl, hb3⟩; have hT3 := Lib.hid (Tabs.after HTC.out hb3))
        | (go_at_call 9; (with_reducible refine (alive_any _ hT3.out).mono ?_); rintro e w8 ⟨rfl, hb8⟩))
      go_ret
      refine ⟨rfl, ?_⟩
      repeat (first | exact hb | refine bthen ?_ (by assumption))
    | true =>
      have hcl := fun a c W (hW : HasStrs W a c L) (hT : Tabs W) => close_ok a c L W hW hm hT
      rw [← closeS_true hm] at hcl
      have hCs := closeS_size L
      have hC36 : 36 ≤ (closeS L).size := by
        rw [closeS_true hm, size_list]
        show 36 ≤ (closeL L).length
        rw [closeL_len, bodyL, List.length_append]
        show 36 ≤ 4 + _ + 32
        omega
      have hoc := open_close hm
      have hsz : ∀ b t, openF t = (b, 0) → b = L → t = closeS L := fun b t h e => by rw [← e]; exact (close_open h).2.symm
      have HCL := Lib.hid hcl
      have HSZ := Lib.hid hsz
      clear hcl hsz
      generalize closeS L = C at *
      have hCe : (C.toList == ([] : List UInt8)) = false := by
        rw [beq_eq_false_iff_ne, ne_eq, ByteArray.toList_eq]
        intro e
        have := congrArg List.length e
        rw [← size_list, List.length_nil] at this
        omega
      have hCe2 : C.toList.isEmpty = false := by
        rw [List.isEmpty_eq_false_iff]
        simpa using hCe
      have hm0 := Int.tmod_lt_of_pos a1 (show (0 : Int) < (C.size : Int) by omega)
      have hm2 : -(C.size : Int) < a1.tmod (C.size : Int) := by
        have := Int.tmod_lt_of_pos (-a1) (show (0 : Int) < (C.size : Int) by omega)
        rw [Int.neg_tmod] at this
        omega
      go_upto_region 5 with (go_at_call 19; (with_reducible refine (HCL.out _ _ _ hL HTC.out).mono ?_); rintro e w3 ⟨rfl, hb3⟩; have hL3 := hL.call hb3; have hT3 := Lib.hid (Tabs.after HTC.out hb3))
      go_cut [1] (fun x wx => ∃ A : Nat, x = .int .i64 A ∧ A < C.size ∧ w3 = wx)
      case first =>
        go_wp2_with fail
        go_meet
        refine ⟨((a1.tmod C.size + C.size) % C.size).toNat, ?_, ?_, rfl⟩
        · have := Int.emod_nonneg (a1.tmod C.size + C.size) (show (C.size : Int) ≠ 0 by omega)
          congr 1; omega
        · have := Int.emod_lt_of_pos (a1.tmod C.size + C.size) (show (0 : Int) < (C.size : Int) by omega)
          omega
      case rest =>
        obtain ⟨n, rfl, hn, rfl⟩ := hcut
        clear hm0 hm2 w1
        have hn2 : n ≤ C.size := by omega
        have hn3 : (n : Int) ≤ (C.size : Int) := by omega
        obtain ⟨P, hP⟩ : ∃ P, C.extract 0 n = P := ⟨_, rfl⟩
        obtain ⟨Q, hQ⟩ : ∃ Q, C ++ s = Q := ⟨_, rfl⟩
        have hQs : Q.size = C.size + s.size := by rw [← hQ, ByteArray.size_append]
        have hQ2 : Q.size ≤ 400000 := by omega
        have hPs : P.size = n := by rw [← hP]; simp; omega
        have hPl : P.data.toList = C.data.toList.take n := by rw [← hP, extract_list]; simp
        have hop := fun W (hW : Tabs W) => open_any P W (by omega) hW
        have hoq := fun W (hW : Tabs W) => open_any Q W (by omega) hW
        obtain ⟨T1, E1, hR1⟩ : ∃ T E, openF P = (T, E) := ⟨_, _, rfl⟩
        obtain ⟨T2, E2, hR2⟩ : ∃ T E, openF Q = (T, E) := ⟨_, _, rfl⟩
        have hnil1 := openF_nil (s := P)
        rw [hR1] at hop hnil1
        rw [hR2] at hoq
        have HOP := Lib.hid hop
        have HOQ := Lib.hid hoq
        have HR2 := Lib.hid hR2
        have HOC := Lib.hid hoc
        have HQS := Lib.hid hQs
        have HQ := Lib.hid hQ
        have hcs : (C ++ s).size ≤ 400000 := by rw [hQ]; exact hQ2
        clear hop hoq hR2 hoc hQs
        -- what Open tells of the cut bytes
        have key : E1 = 0 → 36 ≤ n ∧ ∀ m, m + 32 = n → shaL (C.extract 0 m).data.toList = (C.extract m n).data.toList := by
          intro h0
          subst h0
          obtain ⟨hmT, hcT⟩ := close_open hR1
          rw [closeS_true hmT] at hcT
          have hPL : P.data.toList = closeL T1 := by rw [← hcT]
          have hb4 : 4 ≤ (bodyL T1).length := by rw [bodyL, List.length_append]; show 4 ≤ 4 + _; omega
          have hn9 : n = (bodyL T1).length + 32 := by rw [← hPs, size_list, hPL, closeL_len]
          refine ⟨by omega, fun m hm => ?_⟩
          have hm9 : m = (bodyL T1).length := by omega
          have e1 : (C.extract 0 m).data.toList = bodyL T1 := by
            rw [extract_list, List.drop_zero, Nat.sub_zero]
            have : C.data.toList.take m = (C.data.toList.take n).take m := by rw [List.take_take]; congr 1; omega
            rw [this, ← hPl, hPL, closeL, hm9]; exact List.take_left
          have e2 : (C.extract m n).data.toList = shaL (bodyL T1) := by
            rw [extract_list, ← List.drop_take, ← hPl, hPL, closeL, hm9]; exact List.drop_left
          rw [e1, e2]
        have HK := Lib.hid key
        clear key hR1 hPs hPl
        by_cases hs0 : s.size = 0
        · have hse : s = ⟨#[]⟩ := by
            apply ba_of_list
            have : s.data.toList.length = 0 := by rw [← size_list]; exact hs0
            rw [List.eq_nil_of_length_eq_zero this]
          subst hse
          have hQC : Q = C := by rw [← HQ.out]; exact bytes_inj (by rw [data_app]; simp)
          have hR2 := HR2.out
          rw [hQC, HOC.out] at hR2
          obtain rfl : L = T2 := congrArg Prod.fst hR2
          obtain rfl : 0 = E2 := congrArg Prod.snd hR2
          have hsame := fun a c a' c' W (h1 : HasStrs W a c L) (h2 : HasStrs W a' c' L) => same_same a a' c c' L W h1 h2
          have HSM := Lib.hid hsame
          clear hsame hR2 hQC HR2 HOC
          by_cases hE1 : E1 = 0
          · subst hE1
            obtain ⟨h36, hk⟩ := HK.out rfl
            obtain ⟨m, hm⟩ : ∃ m, m + 32 = n := ⟨n - 32, by omega⟩
            have hsum := hk m hm
            have hm1 : IntKind.i64.wrap ((n : Int) - 32) = (n : Int) - 32 := IntWalk.i64_in _ (by omega)
            have hm2 : ((n : Int) - 32).toNat = m := by omega
            have hn32 : (32 : Int) ≤ (n : Int) := by omega
            have hn33 : ¬ (n : Int) < 32 := by omega
            have hn34 : (n : Int) - 32 ≤ (C.size : Int) := by omega
            have hn35 : (n : Int) - 32 ≤ (n : Int) := by omega
            have hn36 : ¬ (n : Int) - 32 < 0 := by omega
            have hn37 : (0 : Int) ≤ (n : Int) - 32 := by omega
            have hm3 : m ≤ C.size := by omega
            have hm4 : (m : Int) ≤ (C.size : Int) := by omega
            have hm5 : m ≤ n := by omega
            have hm6 : (m : Int) ≤ (n : Int) := by omega
            have hm8 : (0 : Int) ≤ (m : Int) := by omega
            have hm9 : ¬ (m : Int) < 0 := by omega
            obtain ⟨U, hU⟩ : ∃ U, C.extract 0 m = U := ⟨_, rfl⟩
            obtain ⟨V, hV⟩ : ∃ V, C.extract m n = V := ⟨_, rfl⟩
            have hUs : U.size ≤ 400000 := by rw [← hU]; simp; omega
            rw [hU, hV] at hsum
            have hsm := fun W (hW : Tabs W) => sum_any U W (by omega) hW
            rw [hsum] at hsm
            have hVV : (⟨V.data.toList.toArray⟩ : ByteArray) = V := rfl
            rw [hVV] at hsm
            have hq2 : (V.toList == V.toList) = true := by simp
            have HSUM := Lib.hid hsm
            have hq := HQ.out
            clear hsm hVV hsum hk hnil1 HK h36 hm HQ
            go_wp2_with (first
            | (go_at_call 20; (with_reducible refine (HOP.out _ hT3.out).mono ?_); rintro e w4 ⟨x, y, rfl, hX, hb4⟩; have hL4 := hL3.call hb4; have hT4 := Lib.hid (Tabs.after hT3.out hb4))
            | (go_at_call 20; (with_reducible refine (HOQ.out _ hT4.out).mono ?_); rintro e w5 ⟨x', y', rfl, hX', hb5⟩; have hL5 := hL4.call hb5; have hT5 := Lib.hid (Tabs.after hT4.out hb5))
            | (go_at_call 22; (with_reducible refine (HSM.out _ _ _ _ _ hX' hL5).mono ?_); rintro e w7 ⟨rfl, hb7⟩; have hT7 := Lib.hid (Tabs.after hT5.out hb7))
            | (go_at_call 9; (with_reducible refine (alive_any _ hT7.out).mono ?_); rintro e w6 ⟨rfl, hb6⟩; have hT6 := Lib.hid (Tabs.after hT7.out hb6)))
            refine wp_region_later (by kernel_rfl) (by kernel_rfl) ?_
            repeat (go_big_quiet_step ((go_at_call 10; exact calls_later (HSUM.out _ (Tabs.after hT6.out (later_below _ _))))))
            refine wpQuiet_nil ?_
            rintro _ ⟨x, rfl⟩
            have hb9 := later_below w6 x
            generalize later w6 x = w9 at *
            all_goals
              go_wp2
              go_ret
              refine ⟨rfl, ?_⟩
              repeat (first | exact hb | exact below_drewN hb _ | refine bthen ?_ (by assumption) | refine bthen (below_drewN ?_ 1) (by assumption))
          · have hT0 := hnil1 hE1
            simp only [] at hT0
            subst hT0
            have hk2 : ((E1 : Int) == 0) = false := by rw [beq_eq_false_iff_ne]; omega
            have hk3 : ((E1 : Int) != 0) = true := by rw [bne_iff_ne]; omega
            have hq := HQ.out
            clear hnil1 HK hE1 HQ
            go_wp2_with (first
            | (go_at_call 20; (with_reducible refine (HOP.out _ hT3.out).mono ?_); rintro e w4 ⟨x, y, rfl, hX, hb4⟩; have hL4 := hL3.call hb4; have hT4 := Lib.hid (Tabs.after hT3.out hb4))
            | (go_at_call 20; (with_reducible refine (HOQ.out _ hT4.out).mono ?_); rintro e w5 ⟨x', y', rfl, hX', hb5⟩; have hL5 := hL4.call hb5; have hT5 := Lib.hid (Tabs.after hT4.out hb5))
            | (go_at_call 22; (with_reducible refine (HSM.out _ _ _ _ _ hX' hL5).mono ?_); rintro e w7 ⟨rfl, hb7⟩; have hT7 := Lib.hid (Tabs.after hT5.out hb7))
            | (go_at_call 9; (with_reducible refine (alive_any _ hT7.out).mono ?_); rintro e w6 ⟨rfl, hb6⟩; have hT6 := Lib.hid (Tabs.after hT7.out hb6)))
            go_quiet (fail)
            all_goals
              go_wp2
              go_ret
              refine ⟨rfl, ?_⟩
              repeat (first | exact hb | exact below_drewN hb _ | refine below_drewN ?_ _ | refine bthen ?_ (by assumption) | refine bthen (below_drewN ?_ 1) (by assumption))
        · have hsE : (s.toList == ([] : List UInt8)) = false := by
            rw [beq_eq_false_iff_ne, ne_eq, ByteArray.toList_eq]
            intro e
            have := congrArg List.length e
            rw [← size_list, List.length_nil] at this
            omega
          have hsE2 : s.toList.isEmpty = false := by
            rw [List.isEmpty_eq_false_iff]
            simpa using hsE
          by_cases hE2 : E2 = 0
          · subst hE2
            have hne : decide (T2 = L) = false := by
              rw [decide_eq_false_iff_not]
              intro e
              have h1 := HSZ.out T2 Q HR2.out e
              have h2 := HQS.out
              rw [h1] at h2
              omega
            have hsame := fun a c a' c' W (h1 : HasStrs W a c T2) (h2 : HasStrs W a' c' L) => same_dec a a' c c' T2 L false W h1 h2 hne
            have HSD := Lib.hid hsame
            clear hsame hne
            by_cases hE1 : E1 = 0
            · subst hE1
              obtain ⟨h36, hk⟩ := HK.out rfl
              obtain ⟨m, hm⟩ : ∃ m, m + 32 = n := ⟨n - 32, by omega⟩
              have hsum := hk m hm
              have hm1 : IntKind.i64.wrap ((n : Int) - 32) = (n : Int) - 32 := IntWalk.i64_in _ (by omega)
              have hm2 : ((n : Int) - 32).toNat = m := by omega
              have hn32 : (32 : Int) ≤ (n : Int) := by omega
              have hn33 : ¬ (n : Int) < 32 := by omega
              have hn34 : (n : Int) - 32 ≤ (C.size : Int) := by omega
              have hn35 : (n : Int) - 32 ≤ (n : Int) := by omega
              have hn36 : ¬ (n : Int) - 32 < 0 := by omega
              have hn37 : (0 : Int) ≤ (n : Int) - 32 := by omega
              have hm3 : m ≤ C.size := by omega
              have hm4 : (m : Int) ≤ (C.size : Int) := by omega
              have hm5 : m ≤ n := by omega
              have hm6 : (m : Int) ≤ (n : Int) := by omega
              have hm8 : (0 : Int) ≤ (m : Int) := by omega
              have hm9 : ¬ (m : Int) < 0 := by omega
              obtain ⟨U, hU⟩ : ∃ U, C.extract 0 m = U := ⟨_, rfl⟩
              obtain ⟨V, hV⟩ : ∃ V, C.extract m n = V := ⟨_, rfl⟩
              have hUs : U.size ≤ 400000 := by rw [← hU]; simp; omega
              rw [hU, hV] at hsum
              have hsm := fun W (hW : Tabs W) => sum_any U W (by omega) hW
              rw [hsum] at hsm
              have hVV : (⟨V.data.toList.toArray⟩ : ByteArray) = V := rfl
              rw [hVV] at hsm
              have hq2 : (V.toList == V.toList) = true := by simp
              have HSUM := Lib.hid hsm
              have hq := HQ.out
              clear hsm hVV hsum hk hnil1 HK h36 hm HQ
              go_wp2_with (first
              | (go_at_call 20; (with_reducible refine (HOP.out _ hT3.out).mono ?_); rintro e w4 ⟨x, y, rfl, hX, hb4⟩; have hL4 := hL3.call hb4; have hT4 := Lib.hid (Tabs.after hT3.out hb4))
              | (go_at_call 20; (with_reducible refine (HOQ.out _ hT4.out).mono ?_); rintro e w5 ⟨x', y', rfl, hX', hb5⟩; have hL5 := hL4.call hb5; have hT5 := Lib.hid (Tabs.after hT4.out hb5))
              | (go_at_call 9; (with_reducible refine (alive_any _ hT5.out).mono ?_); rintro e w6 ⟨rfl, hb6⟩; have hL6 := hL5.call hb6; have hX6 := hX'.call hb6; have hT6 := Lib.hid (Tabs.after hT5.out hb6)))
              refine wp_region_later (by kernel_rfl) (by kernel_rfl) ?_
              repeat (go_big_quiet_step ((go_at_call 10; exact calls_later (HSUM.out _ (Tabs.after hT6.out (later_below _ _))))))
              refine wpQuiet_nil ?_
              rintro _ ⟨x, rfl⟩
              have hb9 := later_below w6 x
              have hL9 := hL6.call hb9
              have hX9 := hX6.call hb9
              generalize later w6 x = w9 at *
              all_goals
                go_wp2_with (go_at_call 22; (with_reducible refine (HSD.out _ _ _ _ _ hX9 hL9).mono ?_); rintro e w7 ⟨rfl, hb7⟩)
                go_ret
                refine ⟨rfl, ?_⟩
                repeat (first | exact hb | exact below_drewN hb _ | refine bthen ?_ (by assumption) | refine bthen (below_drewN ?_ 1) (by assumption))
            · have hT0 := hnil1 hE1
              simp only [] at hT0
              subst hT0
              have hk2 : ((E1 : Int) == 0) = false := by rw [beq_eq_false_iff_ne]; omega
              have hk3 : ((E1 : Int) != 0) = true := by rw [bne_iff_ne]; omega
              have hq := HQ.out
              clear hnil1 HK hE1 HQ
              go_wp2_with (first
              | (go_at_call 20; (with_reducible refine (HOP.out _ hT3.out).mono ?_); rintro e w4 ⟨x, y, rfl, hX, hb4⟩; have hL4 := hL3.call hb4; have hT4 := Lib.hid (Tabs.after hT3.out hb4))
              | (go_at_call 20; (with_reducible refine (HOQ.out _ hT4.out).mono ?_); rintro e w5 ⟨x', y', rfl, hX', hb5⟩; have hL5 := hL4.call hb5; have hT5 := Lib.hid (Tabs.after hT4.out hb5))
              | (go_at_call 9; (with_reducible refine (alive_any _ hT5.out).mono ?_); rintro e w6 ⟨rfl, hb6⟩; have hL6 := hL5.call hb6; have hX6 := hX'.call hb6; have hT6 := Lib.hid (Tabs.after hT5.out hb6)))
              go_quiet (fail)
              have hL9 := hL6.drewN nq
              have hX9 := hX6.drewN nq
              all_goals
                go_wp2_with (go_at_call 22; (with_reducible refine (HSD.out _ _ _ _ _ hX9 hL9).mono ?_); rintro e w7 ⟨rfl, hb7⟩)
                go_ret
                refine ⟨rfl, ?_⟩
                repeat (first | exact hb | exact below_drewN hb _ | refine below_drewN ?_ _ | refine bthen ?_ (by assumption) | refine bthen (below_drewN ?_ 1) (by assumption))
          · have hj2 : ((E2 : Int) == 0) = false := by rw [beq_eq_false_iff_ne]; omega
            have hj3 : ((E2 : Int) != 0) = true := by rw [bne_iff_ne]; omega
            clear hE2
            by_cases hE1 : E1 = 0
            · subst hE1
              obtain ⟨h36, hk⟩ := HK.out rfl
              obtain ⟨m, hm⟩ : ∃ m, m + 32 = n := ⟨n - 32, by omega⟩
              have hsum := hk m hm
              have hm1 : IntKind.i64.wrap ((n : Int) - 32) = (n : Int) - 32 := IntWalk.i64_in _ (by omega)
              have hm2 : ((n : Int) - 32).toNat = m := by omega
              have hn32 : (32 : Int) ≤ (n : Int) := by omega
              have hn33 : ¬ (n : Int) < 32 := by omega
              have hn34 : (n : Int) - 32 ≤ (C.size : Int) := by omega
              have hn35 : (n : Int) - 32 ≤ (n : Int) := by omega
              have hn36 : ¬ (n : Int) - 32 < 0 := by omega
              have hn37 : (0 : Int) ≤ (n : Int) - 32 := by omega
              have hm3 : m ≤ C.size := by omega
              have hm4 : (m : Int) ≤ (C.size : Int) := by omega
              have hm5 : m ≤ n := by omega
              have hm6 : (m : Int) ≤ (n : Int) := by omega
              have hm8 : (0 : Int) ≤ (m : Int) := by omega
              have hm9 : ¬ (m : Int) < 0 := by omega
              obtain ⟨U, hU⟩ : ∃ U, C.extract 0 m = U := ⟨_, rfl⟩
              obtain ⟨V, hV⟩ : ∃ V, C.extract m n = V := ⟨_, rfl⟩
              have hUs : U.size ≤ 400000 := by rw [← hU]; simp; omega
              rw [hU, hV] at hsum
              have hsm := fun W (hW : Tabs W) => sum_any U W (by omega) hW
              rw [hsum] at hsm
              have hVV : (⟨V.data.toList.toArray⟩ : ByteArray) = V := rfl
              rw [hVV] at hsm
              have hq2 : (V.toList == V.toList) = true := by simp
              have HSUM := Lib.hid hsm
              have hq := HQ.out
              clear hsm hVV hsum hk hnil1 HK h36 hm HQ
              go_wp2_with (first
              | (go_at_call 20; (with_reducible refine (HOP.out _ hT3.out).mono ?_); rintro e w4 ⟨x, y, rfl, hX, hb4⟩; have hL4 := hL3.call hb4; have hT4 := Lib.hid (Tabs.after hT3.out hb4))
              | (go_at_call 20; (with_reducible refine (HOQ.out _ hT4.out).mono ?_); rintro e w5 ⟨x', y', rfl, hX', hb5⟩; have hL5 := hL4.call hb5; have hT5 := Lib.hid (Tabs.after hT4.out hb5))
              | (go_at_call 9; (with_reducible refine (alive_any _ hT5.out).mono ?_); rintro e w6 ⟨rfl, hb6⟩; have hL6 := hL5.call hb6; have hX6 := hX'.call hb6; have hT6 := Lib.hid (Tabs.after hT5.out hb6)))
              refine wp_region_later (by kernel_rfl) (by kernel_rfl) ?_
              repeat (go_big_quiet_step ((go_at_call 10; exact calls_later (HSUM.out _ (Tabs.after hT6.out (later_below _ _))))))
              refine wpQuiet_nil ?_
              rintro _ ⟨x, rfl⟩
              have hb9 := later_below w6 x
              have hL9 := hL6.call hb9
              have hX9 := hX6.call hb9
              generalize later w6 x = w9 at *
              all_goals
                go_wp2
                go_ret
                refine ⟨rfl, ?_⟩
                repeat (first | exact hb | exact below_drewN hb _ | refine bthen ?_ (by assumption) | refine bthen (below_drewN ?_ 1) (by assumption))
            · have hT0 := hnil1 hE1
              simp only [] at hT0
              subst hT0
              have hk2 : ((E1 : Int) == 0) = false := by rw [beq_eq_false_iff_ne]; omega
              have hk3 : ((E1 : Int) != 0) = true := by rw [bne_iff_ne]; omega
              have hq := HQ.out
              clear hnil1 HK hE1 HQ
              go_wp2_with (first
              | (go_at_call 20; (with_reducible refine (HOP.out _ hT3.out).mono ?_); rintro e w4 ⟨x, y, rfl, hX, hb4⟩; have hL4 := hL3.call hb4; have hT4 := Lib.hid (Tabs.after hT3.out hb4))
              | (go_at_call 20; (with_reducible refine (HOQ.out _ hT4.out).mono ?_); rintro e w5 ⟨x', y', rfl, hX', hb5⟩; have hL5 := hL4.call hb5; have hT5 := Lib.hid (Tabs.after hT4.out hb5))
              | (go_at_call 9; (with_reducible refine (alive_any _ hT5.out).mono ?_); rintro e w6 ⟨rfl, hb6⟩; have hL6 := hL5.call hb6; have hX6 := hX'.call hb6; have hT6 := Lib.hid (Tabs.after hT5.out hb6)))
              go_quiet (fail)
              have hL9 := hL6.drewN nq
              have hX9 := hX6.drewN nq
              all_goals
                go_wp2
                go_ret
                refine ⟨rfl, ?_⟩
                repeat (first | exact hb | exact below_drewN hb _ | refine below_drewN ?_ _ | refine bthen ?_ (by assumption) | refine bthen (below_drewN ?_ 1) (by assumption))
end Go.Proofs.YtmmpnkcfekhkhaaDoor
