/- The contract of the document's own Right of layer 4. -/
import Derived.Test.YtjkmnanadeffnaaDoorMatT
namespace Go.Proofs.YtjkmnanadeffnaaDoor
open Go.RowKit Go.Maps

theorem below_drewV {B : Nat} {w W : World} (h : Below B w W) (n : Nat) : Below B w (W.drewN n) := h.trans ⟨rfl, rfl, rfl, Nat.le_refl _, fun _ _ => rfl⟩

set_option maxHeartbeats 6400000 in
set_option maxRecDepth 100000 in
theorem r4Right_any (v : Value) (m : Mat) (w : World) (h : HasMat w v m) : Calls Tryd.prog 13 #[v] w (BoolB (rightM m) w) := by
  obtain ⟨a, c, rfl, hW, hs, hwf⟩ := h
  have h2 := hW.2.1
  have h1 := hW.1
  unfold maxLen at h2
  have HN := Lib.hid (fun W => rName_any m.name W hs)
  have hb1 := Blk.new w 25 #[.string m.name, .int .i64 m.how, .slice a m.words.length c]
  have hbl := (Below.refl _ w).alloc (Nat.le_refl _) (.cells #[.string m.name, .int .i64 m.how, .slice a m.words.length c] 25)
  have HW := Lib.hid hW
  have HB := Lib.hid hbl
  have HK := Lib.hid hb1
  have HM := Lib.hid (fun (k : Nat) (hk : k < m.words.length) => hW.2.2.1 _ (List.getElem_mem hk))
  obtain ⟨J, hJ, hok, hend⟩ := words_end m.words
  have HOK := Lib.hid hok
  have HE := Lib.hid hend
  have hR := rightM_is m
  have HR := Lib.hid hR
  obtain ⟨x0, x1, x2⟩ := hb1.cells3
  clear hW hs hwf hb1 hbl hok hend hR
  go_enter Tryd.func13, Tryd.ntmps13
  go_upto_region 2 with fail
  generalize w.alloc (.cells #[.string m.name, .int .i64 m.how, .slice a m.words.length c] 25) = wx at *
  clear x0 x1 x2
  go_loopw [8] (fun i wr => ∃ k : Nat, k ≤ J ∧ i = .int .i64 k ∧ Below wx.heap.size wx wr) (fun i _ => m.words.length - (intOf i).toNat)
  case atStart => exact ⟨0, Nat.zero_le _, rfl, Below.refl _ _⟩
  case round =>
    obtain ⟨k, hk, rfl, hb⟩ := hrel
    have HBR := Lib.hid hb
    have hbe := bthen HB.out hb
    have HBE := Lib.hid hbe
    have hkk := HK.out.call hb
    obtain ⟨y0, y1, y2⟩ := hkk.cells3
    by_cases hkl : k < m.words.length
    · obtain ⟨_, _, _, h4⟩ := HW.out.call hbe
      rcases h4 with h4 | ⟨b, off, rfl, _, hcell⟩
      · rw [h4] at hkl; simp at hkl
      have hc1 := hcell k hkl
      have hm1 := HM.out k hkl
      have HRW := Lib.hid (fun W => rWord_any m.words[k] W hm1)
      have HC := Lib.hid hcell
      clear hm1 hcell hbe hb hkk
      cases hwd : wordC m.words[k].data.toList with
      | false =>
        have hres : wordsC m.words = false := by
          rcases HE.out with ⟨rfl, hr⟩ | ⟨hj, hq, hr⟩
          · exact absurd (((wordsC_iff m.words).1 hr).1 _ (List.getElem_mem hkl)) (by rw [hwd]; simp)
          · exact hr
        rw [hwd] at HRW
        have hrf : rightM m = false := by rw [HR.out, hres]; rfl
        have HRF := Lib.hid hrf
        clear hres hwd hrf
        go_wp2_with (go_at_call 28; refine (HRW.out _).mono ?_; rintro e w2 ⟨rfl, rfl⟩)
        go_ret
        exact ⟨by rw [HRF.out]; rfl, HBE.out⟩
      | true =>
        rw [hwd] at HRW
        cases k with
        | zero =>
          simp only [Nat.add_zero] at hc1
          have hJ1 : 0 < J := by
            rcases HE.out with ⟨he, hr⟩ | ⟨hj, hq, hr⟩
            · omega
            · rcases Nat.eq_zero_or_pos J with h | h
              · subst h
                rw [okW_zero m.words hkl, hwd] at hq
                cases hq
              · exact h
          clear hwd
          go_wp2_with (go_at_call 28; refine (HRW.out _).mono ?_; rintro e w2 ⟨rfl, rfl⟩)
          go_roundw
          case rel => exact ⟨1, by omega, rfl, HBR.out⟩
          case measure => simp [intOf]; omega
        | succ n =>
          have hml : n < m.words.length := by omega
          have c3 := HC.out n hml
          have e1 : ((n + 1 : Nat) : Int) = (n : Int) + 1 := by omega
          have e2 : IntKind.i64.wrap ((n : Int) + 1 - 1) = (n : Int) := by rw [IntWalk.i64_in _ (by omega)]; omega
          have e3 : (n : Int) + 1 - 1 = (n : Int) := by omega
          have e4 : (0 : Int) < (n : Int) + 1 := by omega
          have HLS := Lib.hid (fun W => rLess_any m.words[n] m.words[n + 1] W (HM.out n hml) (HM.out (n + 1) hkl))
          have hlq : lessB m.words[n].data.toList m.words[n + 1].data.toList = ltW m.words[n] m.words[n + 1] := rfl
          rw [hlq] at HLS
          clear hlq
          cases hl : ltW m.words[n] m.words[n + 1] with
          | false =>
            have hres : wordsC m.words = false := by
              rcases HE.out with ⟨rfl, hr⟩ | ⟨hj, hq, hr⟩
              · have := List.pairwise_iff_getElem.1 ((wordsC_iff m.words).1 hr).2 n (n + 1) hml hkl (by omega)
                rw [hl] at this
                cases this
              · exact hr
            rw [hl] at HLS
            have hrf : rightM m = false := by rw [HR.out, hres]; rfl
            have HRF := Lib.hid hrf
            clear hres hwd hl hrf
            go_wp2_with (first
              | (go_at_call 28; refine (HRW.out _).mono ?_; rintro e w2 ⟨rfl, rfl⟩)
              | (go_at_call 29; refine (HLS.out _).mono ?_; rintro e w3 ⟨rfl, n3, rfl⟩))
            go_ret
            exact ⟨by rw [HRF.out]; rfl, below_drewV HBE.out _⟩
          | true =>
            have hJ1 : n + 1 < J := by
              rcases HE.out with ⟨he, hr⟩ | ⟨hj, hq, hr⟩
              · omega
              · rcases (by omega : n + 1 < J ∨ n + 1 = J) with h | h
                · exact h
                · subst h
                  rw [okW_succ m.words n hkl, hwd, hl] at hq
                  cases hq
            rw [hl] at HLS
            clear hwd hl
            go_wp2_with (first
              | (go_at_call 28; refine (HRW.out _).mono ?_; rintro e w2 ⟨rfl, rfl⟩)
              | (go_at_call 29; refine (HLS.out _).mono ?_; rintro e w3 ⟨rfl, n3, rfl⟩))
            go_roundw
            case rel => exact ⟨n + 2, by omega, by go_num, below_drewV HBR.out _⟩
            case measure => simp [intOf]; omega
    · have hres : wordsC m.words = true := by
        rcases HE.out with ⟨_, hr⟩ | ⟨hj, _, _⟩
        · exact hr
        · omega
      have hR2 := HR.out
      rw [hres, Bool.true_and] at hR2
      have hjk : ¬ ((k : Int) < (m.words.length : Int)) := by omega
      obtain ⟨A, hA⟩ : ∃ A, nameC m.name.data.toList = A := ⟨_, rfl⟩
      rw [hA] at HN hR2
      have HR2 := Lib.hid hR2
      clear hres hR2 hA hb hbe hkk HOK HE
      cases A with
      | false =>
        go_wp2_with (go_at_call 30; refine (HN.out _).mono ?_; rintro e w2 ⟨rfl, rfl⟩)
        go_ret
        exact ⟨by rw [HR2.out]; rfl, HBE.out⟩
      | true =>
        by_cases q1 : 1 ≤ m.how
        case neg =>
          have f1 : m.how < 1 := by omega
          have hR3 : rightM m = false := by rw [HR2.out, decide_eq_false q1]; rfl
          have HR3 := Lib.hid hR3
          clear q1 hR3
          go_wp2_with (go_at_call 30; refine (HN.out _).mono ?_; rintro e w2 ⟨rfl, rfl⟩)
          go_ret
          exact ⟨by rw [HR3.out]; rfl, HBE.out⟩
        have f1 : decide (m.how < 1) = false := decide_eq_false (by omega)
        by_cases q2 : m.how ≤ 4
        case neg =>
          have f2 : 4 < m.how := by omega
          have hR3 : rightM m = false := by rw [HR2.out, decide_eq_true q1, decide_eq_false q2]; rfl
          have HR3 := Lib.hid hR3
          clear q1 q2 hR3
          go_wp2_with (go_at_call 30; refine (HN.out _).mono ?_; rintro e w2 ⟨rfl, rfl⟩)
          go_ret
          exact ⟨by rw [HR3.out]; rfl, HBE.out⟩
        have f2 : decide (4 < m.how) = false := decide_eq_false (by omega)
        by_cases q3 : 1 ≤ m.words.length
        case neg =>
          have f3 : (m.words.length : Int) < 1 := by omega
          have hR3 : rightM m = false := by rw [HR2.out, decide_eq_true q1, decide_eq_true q2, decide_eq_false q3]; rfl
          have HR3 := Lib.hid hR3
          clear q1 q2 q3 hR3
          go_wp2_with (go_at_call 30; refine (HN.out _).mono ?_; rintro e w2 ⟨rfl, rfl⟩)
          go_ret
          exact ⟨by rw [HR3.out]; rfl, HBE.out⟩
        have f3 : decide ((m.words.length : Int) < 1) = false := decide_eq_false (by omega)
        by_cases q4 : m.words.length ≤ 8
        case neg =>
          have f4 : (8 : Int) < (m.words.length : Int) := by omega
          have hR3 : rightM m = false := by rw [HR2.out, decide_eq_true q1, decide_eq_true q2, decide_eq_true q3, decide_eq_false q4]; rfl
          have HR3 := Lib.hid hR3
          clear q1 q2 q3 q4 hR3
          go_wp2_with (go_at_call 30; refine (HN.out _).mono ?_; rintro e w2 ⟨rfl, rfl⟩)
          go_ret
          exact ⟨by rw [HR3.out]; rfl, HBE.out⟩
        have f4 : decide ((8 : Int) < (m.words.length : Int)) = false := decide_eq_false (by omega)
        by_cases q5 : 2 < m.how
        · have f5 : decide (2 < m.how) = true := decide_eq_true q5
          have hR3 : rightM m = true := by rw [HR2.out, decide_eq_true q1, decide_eq_true q2, decide_eq_true q3, decide_eq_true q4, decide_eq_true q5]; rfl
          have HR3 := Lib.hid hR3
          clear q1 q2 q3 q4 hR3
          go_wp2_with (go_at_call 30; refine (HN.out _).mono ?_; rintro e w2 ⟨rfl, rfl⟩)
          go_ret
          exact ⟨by rw [HR3.out]; rfl, HBE.out⟩
        · have f5 : decide (2 < m.how) = false := decide_eq_false q5
          by_cases q6 : m.words.length = 1
          · have f6 : ((m.words.length : Int) == 1) = true := by rw [beq_iff_eq]; omega
            have hR3 : rightM m = true := by rw [HR2.out, decide_eq_true q1, decide_eq_true q2, decide_eq_true q3, decide_eq_true q4, decide_eq_false q5, decide_eq_true q6]; rfl
            have HR3 := Lib.hid hR3
            clear q1 q2 q3 q4 q5 q6 hR3
            go_wp2_with (go_at_call 30; refine (HN.out _).mono ?_; rintro e w2 ⟨rfl, rfl⟩)
            go_ret
            exact ⟨by rw [HR3.out]; rfl, HBE.out⟩
          · have f6 : ((m.words.length : Int) == 1) = false := by rw [beq_eq_false_iff_ne]; omega
            have hR3 : rightM m = false := by rw [HR2.out, decide_eq_true q1, decide_eq_true q2, decide_eq_true q3, decide_eq_true q4, decide_eq_false q5, decide_eq_false q6]; rfl
            have HR3 := Lib.hid hR3
            clear q1 q2 q3 q4 q5 q6 hR3
            go_wp2_with (go_at_call 30; refine (HN.out _).mono ?_; rintro e w2 ⟨rfl, rfl⟩)
            go_ret
            exact ⟨by rw [HR3.out]; rfl, HBE.out⟩
end Go.Proofs.YtjkmnanadeffnaaDoor
