/- The contracts of the document's own Right and Holds of layer 4. -/
import Derived.Test.YtmhehojjlacfoaaDoorLabU
import Derived.Test.YtmhehojjlacfoaaDoorMatR
import Derived.Test.YtmhehojjlacfoaaDoorLabB
import Derived.IntWalk
import Derived.Test.YtmhehojjlacfoaaDoorBlkA
import Derived.Test.YtmhehojjlacfoaaDoorSlcS
import Derived.Test.YtmhehojjlacfoaaDoorStrs
import Derived.Deep.QuietTactic
import Derived.BigQuiet
import Derived.Test.YtmhehojjlacfoaaDoorMg4
import Derived.Test.YtmhehojjlacfoaaDoorMg1
import Derived.Test.YtmhehojjlacfoaaDoorMg3
import Derived.Deep.CutBlock
namespace Go.Proofs.YtmhehojjlacfoaaDoor
open Go.RowKit Go.Maps

theorem rightM_is (m : Mat) : rightM m = (wordsC m.words && (nameC m.name.data.toList && (decide (1 ≤ m.how) && (decide (m.how ≤ 4) && (decide (1 ≤ m.words.length) && (decide (m.words.length ≤ 8) && (decide (2 < m.how) || decide (m.words.length = 1)))))))) := by
  rw [Bool.eq_iff_iff, rightM_iff]
  simp only [Bool.and_eq_true, Bool.or_eq_true, decide_eq_true_eq]
  constructor
  · rintro ⟨h1, h2, h3, h4, h5, h6, h7⟩
    exact ⟨h4, h1, h2, h3, h5, h6, h7.imp (fun h => by omega) id⟩
  · rintro ⟨h1, h2, h3, h4, h5, h6, h7⟩
    exact ⟨h2, h3, h4, h1, h5, h6, h7.imp (fun h => by omega) id⟩

def rHoldsM (v : ByteArray) (m : Mat) : Bool := if m.how = 1 ∨ m.how = 3 then inB v m.words else !inB v m.words
theorem rHoldsM_is {v : ByteArray} {m : Mat} (h : rightM m = true) : rHoldsM v m = holdsM v m := by
  obtain ⟨_, h1, h4, _⟩ := (rightM_iff m).1 h
  unfold rHoldsM holdsM
  have e : getW m.words v = inB v m.words := rfl
  rw [e]
  rcases (by omega : m.how = 1 ∨ m.how = 2 ∨ m.how = 3 ∨ m.how = 4) with h | h | h | h <;> rw [h] <;> cases inB v m.words <;> rfl

set_option maxHeartbeats 3200000 in
set_option maxRecDepth 100000 in
theorem rHolds_any (a' : Option Addr) (c' : Nat) (ls : List Lab) (v : Value) (m : Mat) (w : World) (hL : HasLabs w a' c' ls) (h : HasMat w v m) : Calls Tryd.prog 49 #[.slice a' ls.length c', v] w (BoolB (rHoldsM (getL ls m.name) m) w) := by
  obtain ⟨a, c, rfl, hW, hs, hwf⟩ := h
  have h2 := hW.2.1
  have h1 := hW.1
  unfold maxLen at h2
  have HG := Lib.hid (fun W (hb : Below w.heap.size w W) => rGet_any a' c' ls m.name W (hL.call hb))
  have hb1 := Blk.new w 54 #[.string m.name, .int .i64 m.how, .slice a m.words.length c]
  have hbl := (Below.refl _ w).alloc (Nat.le_refl _) (.cells #[.string m.name, .int .i64 m.how, .slice a m.words.length c] 54)
  have HW := Lib.hid hW
  have HB := Lib.hid hbl
  have HK := Lib.hid hb1
  obtain ⟨x0, x1, x2⟩ := hb1.cells3
  have htk : ∀ k (h : k < m.words.length), inB (getL ls m.name) (m.words.take (k + 1)) = (inB (getL ls m.name) (m.words.take k) || decide (m.words[k] = getL ls m.name)) := fun k h => by
    rw [List.take_succ_eq_append_getElem h, inB, List.any_append]; simp [inB]
  generalize getL ls m.name = V at *
  obtain ⟨R, hR⟩ : ∃ R, rHoldsM V m = R := ⟨_, rfl⟩
  rw [hR]
  have HRX := Lib.hid hR
  clear hR
  have HTK := Lib.hid htk
  clear hW hs hwf hL hb1 hbl htk
  go_enter Tryd.func49, Tryd.ntmps49
  go_upto_region 4 with (go_at_call 67; refine (HG.out _ HB.out).mono ?_; rintro e w2 ⟨rfl, hb2⟩; obtain ⟨y0, y1, y2⟩ := (HK.out.call hb2).cells3)
  have hbe := bthen HB.out hb2
  have HBE := Lib.hid hbe
  have HS := Lib.hid (HW.out.call hbe)
  clear hbe hb2 x0 x1 x2 HB HK HG HW
  go_loop [16, 6] (fun i e => ∃ k : Nat, k ≤ m.words.length ∧ i = .int .i64 k ∧ e = .bool (inB V (m.words.take k))) (fun i _ => m.words.length - (intOf i).toNat)
  case atStart => exact ⟨0, Nat.zero_le _, rfl, rfl⟩
  case round =>
    obtain ⟨n, hn, rfl, rfl⟩ := hrel
    by_cases hnl : n < m.words.length
    · obtain ⟨_, _, _, h4⟩ := HS.out
      rcases h4 with h4 | ⟨b, off, rfl, _, hcell⟩
      · rw [h4] at hnl; simp at hnl
      have hc := hcell n hnl
      have ht := HTK.out n hnl
      obtain ⟨X, hX⟩ : ∃ X, m.words[n] = X := ⟨_, rfl⟩
      rw [hX] at hc ht
      obtain ⟨Y, hY⟩ : ∃ Y, inB V (m.words.take n) = Y := ⟨_, rfl⟩
      rw [hY] at ht ⊢
      have hq := toList_eq_iff X V
      obtain ⟨Z, hZ⟩ : ∃ Z, decide (X = V) = Z := ⟨_, rfl⟩
      rw [hZ] at ht hq
      have HT := Lib.hid ht
      clear hcell hX ht hY hZ
      cases Y <;> cases Z
      all_goals
        go_wp2
        go_round
        case rel => exact ⟨n + 1, by omega, by go_num, by rw [HT.out]; rfl⟩
        case measure => simp [intOf]; omega
    · obtain rfl : n = m.words.length := by omega
      rw [List.take_length]
      clear HTK HS
      by_cases q1 : m.how = 1
      · have f1 : (m.how == 1) = true := beq_iff_eq.2 q1
        have hR : (m.how = 1 ∨ m.how = 3) := .inl q1
        have HR := Lib.hid hR
        clear q1 hR
        go_wp2
        go_ret
        exact ⟨by rw [← HRX.out, rHoldsM, if_pos HR.out]; rfl, HBE.out⟩
      · have f1 : (m.how == 1) = false := beq_eq_false_iff_ne.2 q1
        by_cases q3 : m.how = 3
        · have f3 : (m.how == 3) = true := beq_iff_eq.2 q3
          have hR : (m.how = 1 ∨ m.how = 3) := .inr q3
          have HR := Lib.hid hR
          clear q1 q3 hR
          go_wp2
          go_ret
          exact ⟨by rw [← HRX.out, rHoldsM, if_pos HR.out]; rfl, HBE.out⟩
        · have f3 : (m.how == 3) = false := beq_eq_false_iff_ne.2 q3
          have hR : ¬ (m.how = 1 ∨ m.how = 3) := fun h => h.elim q1 q3
          have HR := Lib.hid hR
          clear q1 q3 hR
          go_wp2
          go_ret
          exact ⟨by rw [← HRX.out, rHoldsM, if_neg HR.out]; rfl, HBE.out⟩
end Go.Proofs.YtmhehojjlacfoaaDoor
/- The contract of the document's own Right of layer 4. -/
namespace Go.Proofs.YtmhehojjlacfoaaDoor
open Go.RowKit Go.Maps

theorem below_drewV {B : Nat} {w W : World} (h : Below B w W) (n : Nat) : Below B w (W.drewN n) := h.trans ⟨rfl, rfl, rfl, Nat.le_refl _, fun _ _ => rfl⟩

set_option maxHeartbeats 6400000 in
set_option maxRecDepth 100000 in
theorem r4Right_any (v : Value) (m : Mat) (w : World) (h : HasMat w v m) : Calls Tryd.prog 63 #[v] w (BoolB (rightM m) w) := by
  obtain ⟨a, c, rfl, hW, hs, hwf⟩ := h
  have h2 := hW.2.1
  have h1 := hW.1
  unfold maxLen at h2
  have HN := Lib.hid (fun W => rName_any m.name W hs)
  have hb1 := Blk.new w 54 #[.string m.name, .int .i64 m.how, .slice a m.words.length c]
  have hbl := (Below.refl _ w).alloc (Nat.le_refl _) (.cells #[.string m.name, .int .i64 m.how, .slice a m.words.length c] 54)
  have HW := Lib.hid hW
  have HB := Lib.hid hbl
  have HK := Lib.hid hb1
  have HM := Lib.hid (fun (k : Nat) (hk : k < m.words.length) => hW.2.2.1 _ (List.getElem_mem hk))
  obtain ⟨J, hJ, hok, hend⟩ := words_end m.words
  have HOK := Lib.hid hok
  have HE := Lib.hid hend
  have hR := rightM_is m
  have HR := Lib.hid hR
  obtain ⟨x0, x1, x2⟩ := hb1.cells3
  clear hW hs hwf hb1 hbl hok hend hR
  go_enter Tryd.func63, Tryd.ntmps63
  go_upto_region 2 with fail
  generalize w.alloc (.cells #[.string m.name, .int .i64 m.how, .slice a m.words.length c] 54) = wx at *
  clear x0 x1 x2
  go_loopw [8] (fun i wr => ∃ k : Nat, k ≤ J ∧ i = .int .i64 k ∧ Below wx.heap.size wx wr) (fun i _ => m.words.length - (intOf i).toNat)
  case atStart => exact ⟨0, Nat.zero_le _, rfl, Below.refl _ _⟩
  case round =>
    obtain ⟨k, hk, rfl, hb⟩ := hrel
    have HBR := Lib.hid hb
    have hbe := bthen HB.out hb
    have HBE := Lib.hid hbe
    have hkk := HK.out.call hb
    obtain ⟨y0, y1, y2⟩ := hkk.cells3
    by_cases hkl : k < m.words.length
    · obtain ⟨_, _, _, h4⟩ := HW.out.call hbe
      rcases h4 with h4 | ⟨b, off, rfl, _, hcell⟩
      · rw [h4] at hkl; simp at hkl
      have hc1 := hcell k hkl
      have hm1 := HM.out k hkl
      have HRW := Lib.hid (fun W => rWord_any m.words[k] W hm1)
      have HC := Lib.hid hcell
      clear hm1 hcell hbe hb hkk
      cases hwd : wordC m.words[k].data.toList with
      | false =>
        have hres : wordsC m.words = false := by
          rcases HE.out with ⟨rfl, hr⟩ | ⟨hj, hq, hr⟩
          · exact absurd (((wordsC_iff m.words).1 hr).1 _ (List.getElem_mem hkl)) (by rw [hwd]; simp)
          · exact hr
        rw [hwd] at HRW
        have hrf : rightM m = false := by rw [HR.out, hres]; rfl
        have HRF := Lib.hid hrf
        clear hres hwd hrf
        go_wp2_with (go_at_call 81; refine (HRW.out _).mono ?_; rintro e w2 ⟨rfl, rfl⟩)
        go_ret
        exact ⟨by rw [HRF.out]; rfl, HBE.out⟩
      | true =>
        rw [hwd] at HRW
        cases k with
        | zero =>
          simp only [Nat.add_zero] at hc1
          have hJ1 : 0 < J := by
            rcases HE.out with ⟨he, hr⟩ | ⟨hj, hq, hr⟩
            · omega
            · rcases Nat.eq_zero_or_pos J with h | h
              · subst h
                rw [okW_zero m.words hkl, hwd] at hq
                cases hq
              · exact h
          clear hwd
          go_wp2_with (go_at_call 81; refine (HRW.out _).mono ?_; rintro e w2 ⟨rfl, rfl⟩)
          go_roundw
          case rel => exact ⟨1, by omega, rfl, HBR.out⟩
          case measure => simp [intOf]; omega
        | succ n =>
          have hml : n < m.words.length := by omega
          have c3 := HC.out n hml
          have e1 : ((n + 1 : Nat) : Int) = (n : Int) + 1 := by omega
          have e2 : IntKind.i64.wrap ((n : Int) + 1 - 1) = (n : Int) := by rw [IntWalk.i64_in _ (by omega)]; omega
          have e3 : (n : Int) + 1 - 1 = (n : Int) := by omega
          have e4 : (0 : Int) < (n : Int) + 1 := by omega
          have HLS := Lib.hid (fun W => rLess_any m.words[n] m.words[n + 1] W (HM.out n hml) (HM.out (n + 1) hkl))
          have hlq : lessB m.words[n].data.toList m.words[n + 1].data.toList = ltW m.words[n] m.words[n + 1] := rfl
          rw [hlq] at HLS
          clear hlq
          cases hl : ltW m.words[n] m.words[n + 1] with
          | false =>
            have hres : wordsC m.words = false := by
              rcases HE.out with ⟨rfl, hr⟩ | ⟨hj, hq, hr⟩
              · have := List.pairwise_iff_getElem.1 ((wordsC_iff m.words).1 hr).2 n (n + 1) hml hkl (by omega)
                rw [hl] at this
                cases this
              · exact hr
            rw [hl] at HLS
            have hrf : rightM m = false := by rw [HR.out, hres]; rfl
            have HRF := Lib.hid hrf
            clear hres hwd hl hrf
            go_wp2_with (first
              | (go_at_call 81; refine (HRW.out _).mono ?_; rintro e w2 ⟨rfl, rfl⟩)
              | (go_at_call 32; refine (HLS.out _).mono ?_; rintro e w3 ⟨rfl, n3, rfl⟩))
            go_ret
            exact ⟨by rw [HRF.out]; rfl, below_drewV HBE.out _⟩
          | true =>
            have hJ1 : n + 1 < J := by
              rcases HE.out with ⟨he, hr⟩ | ⟨hj, hq, hr⟩
              · omega
              · rcases (by omega : n + 1 < J ∨ n + 1 = J) with h | h
                · exact h
                · subst h
                  rw [okW_succ m.words n hkl, hwd, hl] at hq
                  cases hq
            rw [hl] at HLS
            clear hwd hl
            go_wp2_with (first
              | (go_at_call 81; refine (HRW.out _).mono ?_; rintro e w2 ⟨rfl, rfl⟩)
              | (go_at_call 32; refine (HLS.out _).mono ?_; rintro e w3 ⟨rfl, n3, rfl⟩))
            go_roundw
            case rel => exact ⟨n + 2, by omega, by go_num, below_drewV HBR.out _⟩
            case measure => simp [intOf]; omega
    · have hres : wordsC m.words = true := by
        rcases HE.out with ⟨_, hr⟩ | ⟨hj, _, _⟩
        · exact hr
        · omega
      have hR2 := HR.out
      rw [hres, Bool.true_and] at hR2
      have hjk : ¬ ((k : Int) < (m.words.length : Int)) := by omega
      obtain ⟨A, hA⟩ : ∃ A, nameC m.name.data.toList = A := ⟨_, rfl⟩
      rw [hA] at HN hR2
      have HR2 := Lib.hid hR2
      clear hres hR2 hA hb hbe hkk HOK HE
      cases A with
      | false =>
        go_wp2_with (go_at_call 30; refine (HN.out _).mono ?_; rintro e w2 ⟨rfl, rfl⟩)
        go_ret
        exact ⟨by rw [HR2.out]; rfl, HBE.out⟩
      | true =>
        by_cases q1 : 1 ≤ m.how
        case neg =>
          have f1 : m.how < 1 := by omega
          have hR3 : rightM m = false := by rw [HR2.out, decide_eq_false q1]; rfl
          have HR3 := Lib.hid hR3
          clear q1 hR3
          go_wp2_with (go_at_call 30; refine (HN.out _).mono ?_; rintro e w2 ⟨rfl, rfl⟩)
          go_ret
          exact ⟨by rw [HR3.out]; rfl, HBE.out⟩
        have f1 : decide (m.how < 1) = false := decide_eq_false (by omega)
        by_cases q2 : m.how ≤ 4
        case neg =>
          have f2 : 4 < m.how := by omega
          have hR3 : rightM m = false := by rw [HR2.out, decide_eq_true q1, decide_eq_false q2]; rfl
          have HR3 := Lib.hid hR3
          clear q1 q2 hR3
          go_wp2_with (go_at_call 30; refine (HN.out _).mono ?_; rintro e w2 ⟨rfl, rfl⟩)
          go_ret
          exact ⟨by rw [HR3.out]; rfl, HBE.out⟩
        have f2 : decide (4 < m.how) = false := decide_eq_false (by omega)
        by_cases q3 : 1 ≤ m.words.length
        case neg =>
          have f3 : (m.words.length : Int) < 1 := by omega
          have hR3 : rightM m = false := by rw [HR2.out, decide_eq_true q1, decide_eq_true q2, decide_eq_false q3]; rfl
          have HR3 := Lib.hid hR3
          clear q1 q2 q3 hR3
          go_wp2_with (go_at_call 30; refine (HN.out _).mono ?_; rintro e w2 ⟨rfl, rfl⟩)
          go_ret
          exact ⟨by rw [HR3.out]; rfl, HBE.out⟩
        have f3 : decide ((m.words.length : Int) < 1) = false := decide_eq_false (by omega)
        by_cases q4 : m.words.length ≤ 8
        case neg =>
          have f4 : (8 : Int) < (m.words.length : Int) := by omega
          have hR3 : rightM m = false := by rw [HR2.out, decide_eq_true q1, decide_eq_true q2, decide_eq_true q3, decide_eq_false q4]; rfl
          have HR3 := Lib.hid hR3
          clear q1 q2 q3 q4 hR3
          go_wp2_with (go_at_call 30; refine (HN.out _).mono ?_; rintro e w2 ⟨rfl, rfl⟩)
          go_ret
          exact ⟨by rw [HR3.out]; rfl, HBE.out⟩
        have f4 : decide ((8 : Int) < (m.words.length : Int)) = false := decide_eq_false (by omega)
        by_cases q5 : 2 < m.how
        · have f5 : decide (2 < m.how) = true := decide_eq_true q5
          have hR3 : rightM m = true := by rw [HR2.out, decide_eq_true q1, decide_eq_true q2, decide_eq_true q3, decide_eq_true q4, decide_eq_true q5]; rfl
          have HR3 := Lib.hid hR3
          clear q1 q2 q3 q4 hR3
          go_wp2_with (go_at_call 30; refine (HN.out _).mono ?_; rintro e w2 ⟨rfl, rfl⟩)
          go_ret
          exact ⟨by rw [HR3.out]; rfl, HBE.out⟩
        · have f5 : decide (2 < m.how) = false := decide_eq_false q5
          by_cases q6 : m.words.length = 1
          · have f6 : ((m.words.length : Int) == 1) = true := by rw [beq_iff_eq]; omega
            have hR3 : rightM m = true := by rw [HR2.out, decide_eq_true q1, decide_eq_true q2, decide_eq_true q3, decide_eq_true q4, decide_eq_false q5, decide_eq_true q6]; rfl
            have HR3 := Lib.hid hR3
            clear q1 q2 q3 q4 q5 q6 hR3
            go_wp2_with (go_at_call 30; refine (HN.out _).mono ?_; rintro e w2 ⟨rfl, rfl⟩)
            go_ret
            exact ⟨by rw [HR3.out]; rfl, HBE.out⟩
          · have f6 : ((m.words.length : Int) == 1) = false := by rw [beq_eq_false_iff_ne]; omega
            have hR3 : rightM m = false := by rw [HR2.out, decide_eq_true q1, decide_eq_true q2, decide_eq_true q3, decide_eq_true q4, decide_eq_false q5, decide_eq_false q6]; rfl
            have HR3 := Lib.hid hR3
            clear q1 q2 q3 q4 q5 q6 hR3
            go_wp2_with (go_at_call 30; refine (HN.out _).mono ?_; rintro e w2 ⟨rfl, rfl⟩)
            go_ret
            exact ⟨by rw [HR3.out]; rfl, HBE.out⟩
end Go.Proofs.YtmhehojjlacfoaaDoor
/- The contract of the document's own Word of layer 6. -/
namespace Go.Proofs.YtmhehojjlacfoaaDoor
open Go.RowKit

set_option maxHeartbeats 3200000 in
theorem rbWord_any (s : ByteArray) (w : World) (hs : s.size ≤ maxLen) : Calls Tryd.prog 64 #[.string s] w (BoolS (bwC s.data.toList) w) := by
  unfold maxLen at hs
  have hl := lenB s
  by_cases hall : s.data.toList.all bwB = true
  · have hR : bwC s.data.toList = (decide (1 ≤ s.size) && decide (s.size ≤ 64)) := by unfold bwC; rw [hl, hall]; simp
    have HA := Lib.hid (bytesAll hall)
    rw [hR]
    clear hR hl hall
    by_cases h1 : 1 ≤ s.size <;> by_cases h2 : s.size ≤ 64 <;> (try omega)
    all_goals
      go_enter Tryd.func64, Tryd.ntmps64
      go_wp2
      go_loop [3, 4] (fun i _ => ∃ k : Nat, k ≤ s.size ∧ i = .int .i64 k) (fun i _ => s.size - (intOf i).toNat)
      case atStart => exact ⟨0, Nat.zero_le _, rfl⟩
      case round =>
        obtain ⟨k, hk, rfl⟩ := hrel
        by_cases hkl : k < s.size
        · have hw := HA.out k hkl
          obtain ⟨n, hn⟩ : ∃ n, s[k].toNat = n := ⟨_, rfl⟩
          simp only [bwB, decide_eq_true_eq] at hw
          rw [hn] at hw
          by_cases a1 : 97 ≤ n <;> by_cases a2 : n ≤ 122 <;> by_cases a5 : 48 ≤ n <;> by_cases a6 : n ≤ 57 <;> (try omega)
          all_goals first
            | (clear hw
               go_wp2
               go_round
               case rel => exact ⟨k + 1, by omega, by go_num⟩
               case measure => simp [intOf]; omega
               done)
            | (have h : n = 95 := by omega
               have f1 : ((n : Int) != 95) = false := by rw [h]; rfl
               clear h hw
               go_wp2
               go_round
               case rel => exact ⟨k + 1, by omega, by go_num⟩
               case measure => simp [intOf]; omega)
        · go_wp2
          go_ret
          exact ⟨by first | (simp_all; done) | (simp_all; omega), rfl⟩
  · obtain ⟨j, hj, hbad, hok⟩ := bytesNot s hall
    have hR : bwC s.data.toList = false := by unfold bwC; simp only [Bool.not_eq_true] at hall; rw [hall]; simp
    have HA := Lib.hid hok
    have HB := Lib.hid hbad
    rw [hR]
    clear hR hl hall hok hbad
    go_enter Tryd.func64, Tryd.ntmps64
    go_wp2
    go_loop [3, 4] (fun i _ => ∃ k : Nat, k ≤ j ∧ i = .int .i64 k) (fun i _ => s.size - (intOf i).toNat)
    case atStart => exact ⟨0, Nat.zero_le _, rfl⟩
    case round =>
      obtain ⟨k, hk, rfl⟩ := hrel
      by_cases hkl : k = j
      · subst hkl
        have hb := HB.out
        obtain ⟨n, hn⟩ : ∃ n, s[k].toNat = n := ⟨_, rfl⟩
        simp only [bwB, decide_eq_false_iff_not] at hb
        rw [hn] at hb
        have f1 : ((n : Int) != 95) = true := by rw [bne_iff_ne]; omega
        by_cases a1 : 97 ≤ n <;> by_cases a2 : n ≤ 122 <;> by_cases a5 : 48 ≤ n <;> by_cases a6 : n ≤ 57 <;> (try omega)
        all_goals
          clear hb
          go_wp2
          go_ret
          exact ⟨rfl, rfl⟩
      · have hw := HA.out k (by omega)
        have hkz : k < s.size := by omega
        obtain ⟨n, hn⟩ : ∃ n, (s[k]'hkz).toNat = n := ⟨_, rfl⟩
        simp only [bwB, decide_eq_true_eq] at hw
        rw [hn] at hw
        by_cases a1 : 97 ≤ n <;> by_cases a2 : n ≤ 122 <;> by_cases a5 : 48 ≤ n <;> by_cases a6 : n ≤ 57 <;> (try omega)
        all_goals first
          | (clear hw
             go_wp2
             go_round
             case rel => exact ⟨k + 1, by omega, by go_num⟩
             case measure => simp [intOf]; omega
             done)
          | (have h : n = 95 := by omega
             have f1 : ((n : Int) != 95) = false := by rw [h]; rfl
             clear h hw
             go_wp2
             go_round
             case rel => exact ⟨k + 1, by omega, by go_num⟩
             case measure => simp [intOf]; omega)

end Go.Proofs.YtmhehojjlacfoaaDoor
/- The contract of the document's own 'one' of layer 9. -/
namespace Go.Proofs.YtmhehojjlacfoaaDoor
open Go.RowKit

set_option maxHeartbeats 12800000 in
set_option maxRecDepth 100000 in
theorem one9_any (q : RtAt) (w : World) (hq : q.own w) : Calls Tryd.prog 44 #[.agg (tCells q)] w (BoolB (aloneC q.n) w) := by
  have hb := balR (o := .cells (tCells q) 26) (Below.refl w.heap.size w)
  have hB := Blk.new w 26 (tCells q)
  have hA := alone_is q.n
  obtain ⟨R, hR⟩ : ∃ R, aloneC q.n = R := ⟨_, rfl⟩
  rw [hR] at hA ⊢
  obtain ⟨I, hI, hgood, hend⟩ := all_endB rightM q.n.ms
  obtain ⟨J, hJ, hgood2, hend2⟩ := all_endB (fun u : ByteArray => nameC u.data.toList) q.n.bys
  obtain ⟨K, hK, hgood3, hend3⟩ := all_endB (fun u : ByteArray => bwC u.data.toList) q.n.mute
  have HW := Lib.hid (fun W => rbWord_any q.n.recv W (by have := hq.2.2.2.1; unfold maxLen; omega))
  have HOB := Lib.hid (fun W (hW : Below w.heap.size w W) => rOrd_any q.ba q.bc q.n.bys W (hq.2.1.call hW))
  have HOU := Lib.hid (fun W (hW : Below w.heap.size w W) => rOrd_any q.ua q.uc q.n.mute W (hq.2.2.1.call hW))
  have HI1 := Lib.hid (fun W => rIn09_any q.n.wait 0 W)
  have HI2 := Lib.hid (fun W => rIn09_any q.n.every 1 W)
  have HI3 := Lib.hid (fun W => rIn09_any q.n.rep 1 W)
  have y1 : decide ((q.n.ms.length : Int) ≤ 8) = decide (q.n.ms.length ≤ 8) := by rw [Bool.eq_iff_iff, decide_eq_true_iff, decide_eq_true_iff]; omega
  have y7 : decide ((q.n.kids.length : Int) ≤ 16) = decide (q.n.kids.length ≤ 16) := by rw [Bool.eq_iff_iff, decide_eq_true_iff, decide_eq_true_iff]; omega
  generalize q.n.ms.all rightM = A1 at *
  generalize (q.n.bys.all fun u => nameC u.data.toList) = A2 at *
  generalize (q.n.mute.all fun u => bwC u.data.toList) = A3 at *
  generalize bwC q.n.recv.data.toList = W0 at *
  generalize decide (q.n.ms.length ≤ 8) = W1 at *
  generalize (ordT q.n.bys && decide (q.n.bys.length ≤ 8)) = W2 at *
  generalize (ordT q.n.mute && decide (q.n.mute.length ≤ 8)) = W3 at *
  generalize (decide (0 ≤ q.n.wait) && decide (q.n.wait ≤ 1099511627776)) = W4 at *
  generalize (decide (1 ≤ q.n.every) && decide (q.n.every ≤ 1099511627776)) = W5 at *
  generalize (decide (1 ≤ q.n.rep) && decide (q.n.rep ≤ 1099511627776)) = W6 at *
  generalize decide (q.n.kids.length ≤ 16) = W7 at *
  have HA := Lib.hid hA
  have HGI := Lib.hid hgood
  have HEI := Lib.hid hend
  have HGJ := Lib.hid hgood2
  have HEJ := Lib.hid hend2
  have HGK := Lib.hid hgood3
  have HEK := Lib.hid hend3
  have HB := Lib.hid hb
  have HM := Lib.hid hq.1
  have HN := Lib.hid hq.2.1
  have HU := Lib.hid hq.2.2.1
  have hmc := hq.1.2.1
  have hml := hq.1.1
  have hnc := hq.2.1.2.1
  have hnl := hq.2.1.1
  have huc := hq.2.2.1.2.1
  have hul := hq.2.2.1.1
  unfold maxLen at hmc hnc huc
  clear hA hgood hend hgood2 hend2 hgood3 hend3 hb hq hR
  obtain ⟨n, ma, mc, ba, bc, ua, uc, ka, kc⟩ := q
  simp only [tCells] at *
  go_enter Tryd.func44, Tryd.ntmps44
  go_upto_region 1 with fail
  obtain ⟨g, hg⟩ : ∃ g, w.heap.size = g := ⟨_, rfl⟩
  generalize w.alloc (.cells #[.string n.recv, .slice ma n.ms.length mc, .slice ba n.bys.length bc, .int .i64 n.wait, .int .i64 n.every, .int .i64 n.rep, .slice ua n.mute.length uc, .bool n.on, .slice ka n.kids.length kc] 26) = wx at *
  rw [hg] at hB ⊢
  clear hg
  have HAC := Lib.hid (fun W (hW : Below wx.heap.size wx W) => (hB.call hW).cells9)
  obtain ⟨c0, c1, c2, c3, c4, c5, c6, c7, c8⟩ := hB.cells9
  clear hB
  go_wp2_with fail
  have HY1 := Lib.hid y1
  have HY7 := Lib.hid y7
  clear c0 c1 c2 c3 c4 c5 c6 c7 c8 y1 y7
  go_loopg [12, 4] n.ms.length (fun gg iv _ wr => ∃ k : Nat, k + gg = n.ms.length ∧ k ≤ I ∧ iv = .int .i64 (k : Int) ∧ Below wx.heap.size wx wr)
  case atStart => exact ⟨0, by omega, Nat.zero_le _, rfl, Below.refl _ _⟩
  case round =>
    obtain ⟨k, hkg, hkI, rfl, hbr⟩ := hrel
    cases gk with
    | succ gg =>
      have hkl : k < n.ms.length := by omega
      obtain ⟨b1, o1, rfl, x1, z1, ⟨p0, p1, p2⟩, p3, p4, p5⟩ : ∃ b off, ma = some ⟨b, off, none⟩ ∧ ∃ x y,
          (w.cell? ⟨b, off + k * 3, none⟩ = some (.string n.ms[k].name) ∧ w.cell? ⟨b, off + k * 3 + 1, none⟩ = some (.int .i64 n.ms[k].how) ∧ w.cell? ⟨b, off + k * 3 + 2, none⟩ = some (.slice x n.ms[k].words.length y)) ∧
          HasStrs w x y n.ms[k].words ∧ n.ms[k].name.size ≤ maxLen ∧ (Lit.int .i64 n.ms[k].how).wf = true := by
        rcases HM.out.2.2 with h | ⟨b, off, h1, _, h3⟩
        · rw [h] at hkl; simp at hkl
        · exact ⟨b, off, h1, h3 k hkl⟩
      have hrr : k = I → rightM n.ms[k] = false ∧ R = false := fun e => by
        rcases HEI.out with ⟨h1, _⟩ | ⟨_, h3, h4⟩
        · omega
        · subst e
          exact ⟨h3, by rw [HA.out, h4]; rfl⟩
      have hgg : k ≠ I → rightM n.ms[k] = true := fun e => HGI.out k (by omega) hkl
      generalize n.ms[k] = x at *
      have hbw := bthen HB.out hbr
      have e0 := cellL hbw p0
      have e1 := cellL hbw p1
      have e2 := cellL hbw p2
      have hb1 := balR (o := .cells #[.string x.name, .int .i64 x.how, .slice x1 x.words.length z1] 54) (Below.refl wr.heap.size wr)
      have hA := Blk.new wr 54 #[.string x.name, .int .i64 x.how, .slice x1 x.words.length z1]
      have hM := r4Right_any (.agg #[.string x.name, .int .i64 x.how, .slice x1 x.words.length z1]) x (wr.alloc (.cells #[.string x.name, .int .i64 x.how, .slice x1 x.words.length z1] 54)) ⟨x1, z1, rfl, p3.call (bthen hbw hb1), p4, p5⟩
      obtain ⟨X, hX⟩ : ∃ X, rightM x = X := ⟨_, rfl⟩
      rw [hX] at hM hrr hgg
      have HMM := Lib.hid hM
      have HB1 := Lib.hid (bthen hbr hb1)
      obtain ⟨d0, d1, d2⟩ := hA.cells3
      clear hX hM hA hb1 hbw hbr p0 p1 p2 p3 p4 p5
      by_cases hkI2 : k = I
      · obtain ⟨rfl, rfl⟩ := hrr hkI2
        clear hrr hgg hkI2 hkI
        go_wp2_with (go_at_call 63; refine HMM.out.mono ?_; rintro e w3 ⟨rfl, hb3⟩)
        go_ret
        exact ⟨rfl, bthen HB.out (bthen HB1.out hb3)⟩
      · obtain rfl := hgg hkI2
        clear hrr hgg
        go_wp2_with (go_at_call 63; refine HMM.out.mono ?_; rintro e w3 ⟨rfl, hb3⟩)
        go_roundg gg
        case measure => omega
        case rel => exact ⟨k + 1, by omega, by omega, by go_num, bthen HB1.out hb3⟩
    | zero =>
      obtain rfl : k = n.ms.length := by omega
      obtain rfl : A1 = true := by
        rcases HEI.out with ⟨_, e⟩ | ⟨h1, _⟩
        · exact e
        · omega
      have c2 := (HAC.out wr hbr).2.2.1
      have HBR0 := Lib.hid hbr
      clear HEI HGI HM hkg hkI hI hbr
      obtain ⟨wz, hwz⟩ : ∃ W, W = wr := ⟨_, rfl⟩
      subst hwz
      go_wp2_with fail
      clear c2
      go_loopg [23, 6] n.bys.length (fun gg iv _ wr => ∃ k : Nat, k + gg = n.bys.length ∧ k ≤ J ∧ iv = .int .i64 (k : Int) ∧ Below wx.heap.size wx wr)
      case atStart => exact ⟨0, by omega, Nat.zero_le _, rfl, HBR0.out⟩
      case round =>
        obtain ⟨k, hkg, hkI, rfl, hbr⟩ := hrel
        cases gk with
        | succ gg =>
          have hkl : k < n.bys.length := by omega
          obtain ⟨b1, o1, rfl, p0⟩ : ∃ b off, ba = some ⟨b, off, none⟩ ∧ w.cell? ⟨b, off + k, none⟩ = some (.string n.bys[k]) := by
            rcases HN.out.2.2.2 with h | ⟨b, off, h1, _, h3⟩
            · rw [h] at hkl; simp at hkl
            · exact ⟨b, off, h1, h3 k hkl⟩
          have hs := HN.out.2.2.1 _ (List.getElem_mem hkl)
          have hrr : k = J → nameC n.bys[k].data.toList = false ∧ R = false := fun e => by
            rcases HEJ.out with ⟨h1, _⟩ | ⟨_, h3, h4⟩
            · omega
            · subst e
              exact ⟨h3, by rw [HA.out, h4]; simp only [Bool.false_and, Bool.and_false]⟩
          have hgg : k ≠ J → nameC n.bys[k].data.toList = true := fun e => HGJ.out k (by omega) hkl
          generalize n.bys[k] = x at *
          have e0 := cellL (bthen HB.out hbr) p0
          have hM := fun W => rName_any x W hs
          obtain ⟨X, hX⟩ : ∃ X, nameC x.data.toList = X := ⟨_, rfl⟩
          rw [hX] at hrr hgg
          simp only [hX] at hM
          have HMM := Lib.hid hM
          have HB1 := Lib.hid hbr
          clear hX hM hbr p0 hs
          by_cases hkI2 : k = J
          · obtain ⟨rfl, rfl⟩ := hrr hkI2
            clear hrr hgg hkI2 hkI
            go_wp2_with (go_at_call 30; refine (HMM.out _).mono ?_; rintro e w3 ⟨rfl, rfl⟩)
            go_ret
            exact ⟨rfl, bthen HB.out HB1.out⟩
          · obtain rfl := hgg hkI2
            clear hrr hgg
            go_wp2_with (go_at_call 30; refine (HMM.out _).mono ?_; rintro e w3 ⟨rfl, rfl⟩)
            go_roundg gg
            case measure => omega
            case rel => exact ⟨k + 1, by omega, by omega, by go_num, HB1.out⟩
        | zero =>
          obtain rfl : k = n.bys.length := by omega
          obtain rfl : A2 = true := by
            rcases HEJ.out with ⟨_, e⟩ | ⟨h1, _⟩
            · exact e
            · omega
          have c6 := (HAC.out wr hbr).2.2.2.2.2.2.1
          have HBR0 := Lib.hid hbr
          clear HEJ HGJ HN hkg hkI hJ hbr
          obtain ⟨wz, hwz⟩ : ∃ W, W = wr := ⟨_, rfl⟩
          subst hwz
          go_wp2_with fail
          clear c6
          go_loopg [34, 8] n.mute.length (fun gg iv _ wr => ∃ k : Nat, k + gg = n.mute.length ∧ k ≤ K ∧ iv = .int .i64 (k : Int) ∧ Below wx.heap.size wx wr)
          case atStart => exact ⟨0, by omega, Nat.zero_le _, rfl, HBR0.out⟩
          case round =>
            obtain ⟨k, hkg, hkI, rfl, hbr⟩ := hrel
            cases gk with
            | succ gg =>
              have hkl : k < n.mute.length := by omega
              obtain ⟨b1, o1, rfl, p0⟩ : ∃ b off, ua = some ⟨b, off, none⟩ ∧ w.cell? ⟨b, off + k, none⟩ = some (.string n.mute[k]) := by
                rcases HU.out.2.2.2 with h | ⟨b, off, h1, _, h3⟩
                · rw [h] at hkl; simp at hkl
                · exact ⟨b, off, h1, h3 k hkl⟩
              have hs := HU.out.2.2.1 _ (List.getElem_mem hkl)
              have hrr : k = K → bwC n.mute[k].data.toList = false ∧ R = false := fun e => by
                rcases HEK.out with ⟨h1, _⟩ | ⟨_, h3, h4⟩
                · omega
                · subst e
                  exact ⟨h3, by rw [HA.out, h4]; simp only [Bool.false_and, Bool.and_false]⟩
              have hgg : k ≠ K → bwC n.mute[k].data.toList = true := fun e => HGK.out k (by omega) hkl
              generalize n.mute[k] = x at *
              have e0 := cellL (bthen HB.out hbr) p0
              have hM := fun W => rbWord_any x W hs
              obtain ⟨X, hX⟩ : ∃ X, bwC x.data.toList = X := ⟨_, rfl⟩
              rw [hX] at hrr hgg
              simp only [hX] at hM
              have HMM := Lib.hid hM
              have HB1 := Lib.hid hbr
              clear hX hM hbr p0 hs
              by_cases hkI2 : k = K
              · obtain ⟨rfl, rfl⟩ := hrr hkI2
                clear hrr hgg hkI2 hkI
                go_wp2_with (go_at_call 64; refine (HMM.out _).mono ?_; rintro e w3 ⟨rfl, rfl⟩)
                go_ret
                exact ⟨rfl, bthen HB.out HB1.out⟩
              · obtain rfl := hgg hkI2
                clear hrr hgg
                go_wp2_with (go_at_call 64; refine (HMM.out _).mono ?_; rintro e w3 ⟨rfl, rfl⟩)
                go_roundg gg
                case measure => omega
                case rel => exact ⟨k + 1, by omega, by omega, by go_num, HB1.out⟩
            | zero =>
              obtain rfl : k = n.mute.length := by omega
              obtain rfl : A3 = true := by
                rcases HEK.out with ⟨_, e⟩ | ⟨h1, _⟩
                · exact e
                · omega
              obtain ⟨c0, c1, c2, c3, c4, c5, c6, c7, c8⟩ := HAC.out wr hbr
              have y1 := HY1.out
              have y7 := HY7.out
              have HBR := Lib.hid (bthen HB.out hbr)
              have HBX := Lib.hid hbr
              clear HEK HGK HU hkg hkI hK hbr
              cases W0
              case false =>
                go_wp2_with (first
                  | (go_at_call 64; (with_reducible refine (HW.out _).mono ?_); rintro e w2 ⟨rfl, rfl⟩))
                go_ret
                exact ⟨by rw [HA.out]; rfl, HBR.out⟩
              cases W1
              case false =>
                go_wp2_with (first
                  | (go_at_call 64; (with_reducible refine (HW.out _).mono ?_); rintro e w2 ⟨rfl, rfl⟩))
                go_ret
                exact ⟨by rw [HA.out]; rfl, HBR.out⟩
              cases W2
              case false =>
                go_wp2_with (first
                  | (go_at_call 64; (with_reducible refine (HW.out _).mono ?_); rintro e w2 ⟨rfl, rfl⟩)
                  | (go_at_call 65; (with_reducible refine (HOB.out _ HBR.out).mono ?_); rintro e w3 ⟨rfl, hb3⟩; obtain ⟨x0, x1, x2, x3, x4, x5, x6, x7, x8⟩ := HAC.out _ (bthen HBX.out hb3)))
                go_ret
                exact ⟨by rw [HA.out]; rfl, (bthen HBR.out hb3)⟩
              cases W3
              case false =>
                go_wp2_with (first
                  | (go_at_call 64; (with_reducible refine (HW.out _).mono ?_); rintro e w2 ⟨rfl, rfl⟩)
                  | (go_at_call 65; (with_reducible refine (HOB.out _ HBR.out).mono ?_); rintro e w3 ⟨rfl, hb3⟩; obtain ⟨x0, x1, x2, x3, x4, x5, x6, x7, x8⟩ := HAC.out _ (bthen HBX.out hb3))
                  | (go_at_call 65; (with_reducible refine (HOU.out _ (bthen HBR.out hb3)).mono ?_); rintro e w4 ⟨rfl, hb4⟩; obtain ⟨y0, y1', y2, y3, y4, y5, y6, y7', y8⟩ := HAC.out _ (bthen HBX.out (bthen hb3 hb4))))
                go_ret
                exact ⟨by rw [HA.out]; rfl, (bthen HBR.out (bthen hb3 hb4))⟩
              cases W4
              case false =>
                go_wp2_with (first
                  | (go_at_call 64; (with_reducible refine (HW.out _).mono ?_); rintro e w2 ⟨rfl, rfl⟩)
                  | (go_at_call 65; (with_reducible refine (HOB.out _ HBR.out).mono ?_); rintro e w3 ⟨rfl, hb3⟩; obtain ⟨x0, x1, x2, x3, x4, x5, x6, x7, x8⟩ := HAC.out _ (bthen HBX.out hb3))
                  | (go_at_call 65; (with_reducible refine (HOU.out _ (bthen HBR.out hb3)).mono ?_); rintro e w4 ⟨rfl, hb4⟩; obtain ⟨y0, y1', y2, y3, y4, y5, y6, y7', y8⟩ := HAC.out _ (bthen HBX.out (bthen hb3 hb4)))
                  | (go_at_call 66; (with_reducible refine (HI1.out _).mono ?_); rintro e w5 ⟨rfl, rfl⟩))
                go_ret
                exact ⟨by rw [HA.out]; rfl, (bthen HBR.out (bthen hb3 hb4))⟩
              cases W5
              case false =>
                go_wp2_with (first
                  | (go_at_call 64; (with_reducible refine (HW.out _).mono ?_); rintro e w2 ⟨rfl, rfl⟩)
                  | (go_at_call 65; (with_reducible refine (HOB.out _ HBR.out).mono ?_); rintro e w3 ⟨rfl, hb3⟩; obtain ⟨x0, x1, x2, x3, x4, x5, x6, x7, x8⟩ := HAC.out _ (bthen HBX.out hb3))
                  | (go_at_call 65; (with_reducible refine (HOU.out _ (bthen HBR.out hb3)).mono ?_); rintro e w4 ⟨rfl, hb4⟩; obtain ⟨y0, y1', y2, y3, y4, y5, y6, y7', y8⟩ := HAC.out _ (bthen HBX.out (bthen hb3 hb4)))
                  | (go_at_call 66; (with_reducible refine (HI1.out _).mono ?_); rintro e w5 ⟨rfl, rfl⟩)
                  | (go_at_call 66; (with_reducible refine (HI2.out _).mono ?_); rintro e w6 ⟨rfl, rfl⟩))
                go_ret
                exact ⟨by rw [HA.out]; rfl, (bthen HBR.out (bthen hb3 hb4))⟩
              cases W6
              case false =>
                go_wp2_with (first
                  | (go_at_call 64; (with_reducible refine (HW.out _).mono ?_); rintro e w2 ⟨rfl, rfl⟩)
                  | (go_at_call 65; (with_reducible refine (HOB.out _ HBR.out).mono ?_); rintro e w3 ⟨rfl, hb3⟩; obtain ⟨x0, x1, x2, x3, x4, x5, x6, x7, x8⟩ := HAC.out _ (bthen HBX.out hb3))
                  | (go_at_call 65; (with_reducible refine (HOU.out _ (bthen HBR.out hb3)).mono ?_); rintro e w4 ⟨rfl, hb4⟩; obtain ⟨y0, y1', y2, y3, y4, y5, y6, y7', y8⟩ := HAC.out _ (bthen HBX.out (bthen hb3 hb4)))
                  | (go_at_call 66; (with_reducible refine (HI1.out _).mono ?_); rintro e w5 ⟨rfl, rfl⟩)
                  | (go_at_call 66; (with_reducible refine (HI2.out _).mono ?_); rintro e w6 ⟨rfl, rfl⟩)
                  | (go_at_call 66; (with_reducible refine (HI3.out _).mono ?_); rintro e w7 ⟨rfl, rfl⟩))
                go_ret
                exact ⟨by rw [HA.out]; rfl, (bthen HBR.out (bthen hb3 hb4))⟩
              cases W7
              all_goals
                go_wp2_with (first
                  | (go_at_call 64; (with_reducible refine (HW.out _).mono ?_); rintro e w2 ⟨rfl, rfl⟩)
                  | (go_at_call 65; (with_reducible refine (HOB.out _ HBR.out).mono ?_); rintro e w3 ⟨rfl, hb3⟩; obtain ⟨x0, x1, x2, x3, x4, x5, x6, x7, x8⟩ := HAC.out _ (bthen HBX.out hb3))
                  | (go_at_call 65; (with_reducible refine (HOU.out _ (bthen HBR.out hb3)).mono ?_); rintro e w4 ⟨rfl, hb4⟩; obtain ⟨y0, y1', y2, y3, y4, y5, y6, y7', y8⟩ := HAC.out _ (bthen HBX.out (bthen hb3 hb4)))
                  | (go_at_call 66; (with_reducible refine (HI1.out _).mono ?_); rintro e w5 ⟨rfl, rfl⟩)
                  | (go_at_call 66; (with_reducible refine (HI2.out _).mono ?_); rintro e w6 ⟨rfl, rfl⟩)
                  | (go_at_call 66; (with_reducible refine (HI3.out _).mono ?_); rintro e w7 ⟨rfl, rfl⟩))
                go_ret
                exact ⟨by rw [HA.out]; rfl, (bthen HBR.out (bthen hb3 hb4))⟩
end Go.Proofs.YtmhehojjlacfoaaDoor
