/- The contracts of the document's own New and Text of layer 3. -/
import Derived.Test.YtlejejmcicecgaaLabH
import Derived.Test.YtlejejmcicecgaaBytes
namespace Go.Proofs.Ytlejejmcicecgaa
open Go.RowKit

theorem rNew_long (a : Option Addr) (c : Nat) (ls : List Lab) (w : World) (_hcm : c ≤ maxLen) (_hlc : ls.length ≤ c) (h8 : ¬ ls.length ≤ 8) :
    Calls Try.prog 12 #[.slice a ls.length c] w (LabsE [] 2 w) := by
  unfold maxLen at _hcm
  go_enter Try.func12, Try.ntmps12
  go_wp2
  go_ret2
  exact labsE_nil (Below.refl _ _)

set_option maxHeartbeats 3200000 in
set_option maxRecDepth 100000 in
theorem rNew_some (a : Option Addr) (c : Nat) (ls : List Lab) (w : World) (h : HasLabs w a c ls) (h8 : ls.length ≤ 8) :
    Calls Try.prog 12 #[.slice a ls.length c] w (LabsE (newP ls).1 (newP ls).2 w) := by
  have HL := Lib.hid h
  have h1 := h.1
  have h2 := h.2.1
  have HM := Lib.hid (labs_sizes h.2.2.1)
  unfold maxLen at h2
  clear h
  obtain ⟨J, hJ, hok, hend⟩ := lab_end ls
  have HOK := Lib.hid hok
  have HE := Lib.hid hend
  clear hok hend
  go_enter Try.func12, Try.ntmps12
  go_wp2
  go_loopw [12] (fun i wr => ∃ k : Nat, k ≤ J ∧ i = .int .i64 k ∧ Below w.heap.size w wr) (fun i _ => ls.length - (intOf i).toNat)
  case atStart => exact ⟨0, Nat.zero_le _, rfl, Below.refl _ _⟩
  case round =>
    obtain ⟨k, hk, rfl, hbl⟩ := hrel
    by_cases hkl : k < ls.length
    · obtain ⟨b, off, rfl, hbb, hcell⟩ := (HL.out.call hbl).some k hkl
      obtain ⟨hc1, hc2⟩ := hcell k hkl
      obtain ⟨hm1, hm2⟩ := HM.out k hkl
      obtain ⟨X, hX⟩ : ∃ X, ls[k] = X := ⟨_, rfl⟩
      rw [hX] at hc1 hc2 hm1 hm2
      have hn := fun V => rName_any X.1 V hm1
      have hv := fun V => rValue_any X.2 V hm2
      have hlx : labC ls[k] = (nameC X.1.data.toList && valC X.2.data.toList) := by rw [hX]; rfl
      have HLX := Lib.hid hlx
      clear hX hlx hm1 hm2 hcell
      cases hA : nameC X.1.data.toList with
      | false =>
        rw [hA] at hn HLX
        have hbad : labC ls[k] = false := HLX.out
        have hall : ls.all labC = false := by
          rcases HE.out with ⟨hj, h⟩ | ⟨hj, hq, h⟩
          · have := HOK.out k (by omega) hkl
            rw [hbad] at this; cases this
          · exact h
        have HP := Lib.hid (newP_bad h8 hall)
        have HN := Lib.hid hn
        clear hbad hall hn hv hA
        go_wp2_with (go_at_call 31; (refine (HN.out _).mono ?_); rintro e w2 ⟨rfl, rfl⟩)
        go_ret2
        rw [HP.out]
        exact labsE_nil (hbl.alloc hbl.size _)
      | true =>
        rw [hA] at hn HLX
        cases hB : valC X.2.data.toList with
        | false =>
          rw [hB] at hv HLX
          have hbad : labC ls[k] = false := HLX.out
          have hall : ls.all labC = false := by
            rcases HE.out with ⟨hj, h⟩ | ⟨hj, hq, h⟩
            · have := HOK.out k (by omega) hkl
              rw [hbad] at this; cases this
            · exact h
          have HP := Lib.hid (newP_bad h8 hall)
          have HN := Lib.hid hn
          have HV := Lib.hid hv
          clear hbad hall hn hv hA hB
          go_wp2_with (first | (go_at_call 31; (refine (HN.out _).mono ?_); rintro e w2 ⟨rfl, rfl⟩) | (go_at_call 32; (refine (HV.out _).mono ?_); rintro e w2 ⟨rfl, rfl⟩))
          go_ret2
          rw [HP.out]
          exact labsE_nil (hbl.alloc hbl.size _)
        | true =>
          rw [hB] at hv HLX
          have hgood : labC ls[k] = true := HLX.out
          have hJ1 : k < J := by
            rcases HE.out with ⟨rfl, h⟩ | ⟨hj, hq, h⟩
            · exact hkl
            · rcases Nat.lt_or_ge k J with h | h
              · exact h
              · obtain rfl : k = J := by omega
                rw [hgood] at hq; cases hq
          have HN := Lib.hid hn
          have HV := Lib.hid hv
          clear hgood hn hv hA hB
          go_wp2_with (first | (go_at_call 31; (refine (HN.out _).mono ?_); rintro e w2 ⟨rfl, rfl⟩) | (go_at_call 32; (refine (HV.out _).mono ?_); rintro e w2 ⟨rfl, rfl⟩))
          go_roundw
          case rel => exact ⟨k + 1, by omega, by go_num, hbl.alloc hbl.size _⟩
          case measure => simp [intOf]; omega
    · have hall := all_end HE.out hk hkl
      have HALL := Lib.hid hall
      have HSO := Lib.hid (fun V (hV : HasLabs V a c ls) => rSorted_any a c ls V hV (by omega))
      have hLr := HL.out.call hbl
      have hrr := fun (out : List Lab) a' c' V (hV : HasLabs V a' c' out) => rRight_any a' c' out V hV
      have HRR := Lib.hid hrr
      clear hall hrr hk
      go_upto_region 10 with (go_at_call 33; (with_reducible refine (HSO.out _ hLr).mono ?_); rintro e w2 ⟨out, a2, c2, rfl, hL2, hp, hws, hb2⟩)
      have HRX := Lib.hid (HRR.out out a2 c2)
      have HP := Lib.hid hp
      have HW := Lib.hid hws
      clear hp hws hLr
      cases hr : rightC out with
      | false =>
        have hP := newP_twice h8 HALL.out HP.out HW.out hr
        rw [hr] at HRX
        have HPP := Lib.hid hP
        clear hP hr
        go_wp2_with (go_at_call 15; (with_reducible refine (HRX.out _ hL2).mono ?_); rintro e w3 ⟨rfl, hb3⟩)
        go_ret2
        rw [HPP.out]
        exact labsE_nil (bthen (bthen hbl hb2) hb3)
      | true =>
        have hP := newP_ok h8 HALL.out HP.out HW.out hr
        rw [hr] at HRX
        have HPP := Lib.hid hP
        clear hP hr
        go_wp2_with (go_at_call 15; (with_reducible refine (HRX.out _ hL2).mono ?_); rintro e w3 ⟨rfl, hb3⟩)
        have hL3 := Lib.hid (hL2.call hb3)
        go_ret2
        rw [HPP.out]
        exact ⟨a2, c2, rfl, hL3.out, bthen (bthen hbl hb2) hb3⟩
theorem rNew_any (a : Option Addr) (c : Nat) (ls : List Lab) (w : World) (h : HasLabs w a c ls) :
    Calls Try.prog 12 #[.slice a ls.length c] w (LabsE (newP ls).1 (newP ls).2 w) := by
  by_cases h8 : ls.length ≤ 8
  · exact rNew_some a c ls w h h8
  · have e : newP ls = ([], 2) := by rw [newP, if_neg h8]
    rw [e]
    exact rNew_long a c ls w h.2.1 h.1 h8
end Go.Proofs.Ytlejejmcicecgaa
