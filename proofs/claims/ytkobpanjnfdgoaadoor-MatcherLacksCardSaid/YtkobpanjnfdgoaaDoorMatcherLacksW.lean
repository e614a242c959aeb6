/- The walk of MatcherLacks. -/
import Derived.Test.YtkobpanjnfdgoaaDoorMatJ
namespace Go.Proofs.YtkobpanjnfdgoaaDoor
open Go.RowKit Go.Maps

set_option maxHeartbeats 6400000 in
set_option maxRecDepth 100000 in
theorem matcherLacks_walk {w : World} (a0 : Option Addr) (len0 cap0 : Nat) (ls0 : List Lab) (w0 : ls0.length = len0 ∧ HasLabs w a0 cap0 ls0) (v1 : Value) (m1 : Mat) (w1 : HasMat w v1 m1) (hmc : MaxC w) :
    Calls Tryd.prog 8 #[.slice a0 len0 cap0, v1] w fun e w' => e = .returned (.bool true) ∧ Below w.heap.size w w' := by
  obtain ⟨rfl, h0⟩ := w0
  obtain ⟨a1, c1, rfl, hs1, hn1, hwf1⟩ := w1
  have H0 := Lib.hid h0
  have H1 := Lib.hid (fun W (hb : Below w.heap.size w W) => (⟨a1, c1, rfl, hs1.call hb, hn1, hwf1⟩ : HasMat W _ m1))
  have HMC := Lib.hid hmc
  have HWF := Lib.hid hwf1
  clear h0 hs1 hn1 hwf1 hmc
  go_enter Tryd.func8, Tryd.ntmps8
  go_upto_region 1 with fail
  have hblk := Blk.new w 25 #[.string m1.name, .int .i64 m1.how, .slice a1 m1.words.length c1]
  have hb0 : Below w.heap.size w (w.alloc (.cells #[.string m1.name, .int .i64 m1.how, .slice a1 m1.words.length c1] 25)) := (Below.refl _ _).alloc (Nat.le_refl _) _
  generalize w.alloc (.cells #[.string m1.name, .int .i64 m1.how, .slice a1 m1.words.length c1] 25) = wx at *
  have HB := Lib.hid hblk
  have HB0 := Lib.hid hb0
  obtain ⟨x0, x1, x2⟩ := hblk.cells3
  clear hblk hb0
  go_cut [0] (fun l wy => ∃ p q a c, l = .slice p (fewL ls0).length q ∧ HasLabs wy p q (fewL ls0) ∧ Blk wy w.heap.size 25 #[.string (cutM m1).name, .int .i64 m1.how, .slice a (cutM m1).words.length c] ∧ HasStrs wy a c (cutM m1).words ∧ Below w.heap.size w wy)
  case first =>
    go_region_with (first
      | (go_at_call 9; (with_reducible refine (few_any a0 cap0 ls0 _ ?_).mono ?_); (first | exact H0.out.call HB0.out.drew | exact H0.out.call (bthen HB0.out.drew hbc)); rintro e wf ⟨p, q, rfl, hL, hbf⟩; (try have hkf := HB.out.drew.call hbf); (try have hkf := hkc.call hbf); obtain ⟨y0, y1, y2⟩ := hkf.cells3; have g0 := hkf.frozen 0; have g1 := hkf.frozen 1; have g2 := hkf.frozen 2)
      | (go_at_call 10; (with_reducible refine (cut_any _ m1 _ ?_).mono ?_); (first | exact H1.out _ HB0.out.drew | exact H1.out _ (bthen HB0.out.drew hbf)); rintro e wc ⟨ac, cc, rfl, hS, hF, hbc⟩; (try have hkc := HB.out.drew.call hbc); (try have hkc := hkf.call hbc); obtain ⟨y0, y1, y2⟩ := hkc.cells3; have g0 := hkc.frozen 0; have g1 := hkc.frozen 1; have g2 := hkc.frozen 2))
    all_goals
      go_wp2_with fail
      go_meet
      exact ⟨p, q, ac, cc, rfl, labs_set3 (hL.call hbc) hkc slice_ne _ _ _, hkc.set3 _ _ _, hS.set3F (fun b o s e => Nat.lt_trans hkf.lt (hF b o s e)) _ _ _, below_set3 (bthen (bthen HB0.out.drew hbf) hbc) (Nat.le_refl _) _ _ _⟩
  case rest =>
    clear x0 x1 x2
    obtain ⟨p, q, a, c, rfl, hL, hK, hS, hb⟩ := hcut
    have hmc2 := HMC.out.call hb
    have hnm : (cutM m1).name.size ≤ maxLen := cutM_name m1
    have hwf : (Lit.int .i64 (cutM m1).how).wf = true := HWF.out
    have hwl := cutM_words m1
    have hll := fewL_len ls0
    rw [show m1.how = (cutM m1).how from rfl] at hK
    clear HB HB0 H0 H1 HMC HWF
    generalize fewL ls0 = L at *
    generalize cutM m1 = M at *
    have hhold := holds_any _ _ _ _ _ _ _ (hL.call ((Below.refl _ _).alloc (Nat.le_refl _) (.cells (matCells a c M) 25))) (hasMats_one _ a c M hS hnm hwf) (by show 1 ≤ 1000; decide)
    unfold matCells HoldsPost at hhold
    obtain ⟨B, hB⟩ : ∃ B, (holdsL L [M]).1 = B := ⟨_, rfl⟩
    obtain ⟨E, hE⟩ : ∃ E, (holdsL L [M]).2 = E := ⟨_, rfl⟩
    rw [hB, hE] at hhold
    have hhold2 : Calls Tryd.prog 11 #[.slice p L.length q, .slice (some ⟨wc.heap.size, 0, none⟩) 1 1] (wc.alloc (.cells #[.string M.name, .int .i64 M.how, .slice a M.words.length c] 25)) fun e w' => e = .returned (.tuple #[.bool B, .int .i64 E]) ∧ Below (wc.alloc (.cells #[.string M.name, .int .i64 M.how, .slice a M.words.length c] 25)).heap.size (wc.alloc (.cells #[.string M.name, .int .i64 M.how, .slice a M.words.length c] 25)) w' := hhold
    have HH := Lib.hid hhold2
    have HK := Lib.hid hK
    have HB := Lib.hid hb
    have HL := Lib.hid hL
    have HS := Lib.hid hS
    have HMC := Lib.hid hmc2
    have hspec : (E ≠ 0 ∧ B = false) ∨ (E = 0 ∧ rightM M = true ∧ B = holdsM (getL L M.name) M) := by
      rw [← hB, ← hE]
      unfold holdsL
      by_cases h1 : rightC L = true
      · rw [if_pos h1]
        by_cases h2 : [M].all rightM = true
        · rw [if_pos h2]
          refine .inr ⟨rfl, by simpa using h2, by simp⟩
        · rw [if_neg h2]
          exact .inl ⟨by decide, rfl⟩
      · rw [if_neg h1]
        exact .inl ⟨by decide, rfl⟩
    have HSP := Lib.hid hspec
    have hbz := hb.alloc hb.size (.cells #[.string M.name, .int .i64 M.how, .slice a M.words.length c] 25)
    have HBZ := Lib.hid hbz
    have hkz := hK.alloc (.cells #[.string M.name, .int .i64 M.how, .slice a M.words.length c] 25)
    have HKZ := Lib.hid hkz
    have hlz := hL.call ((Below.refl _ _).alloc (Nat.le_refl _) (.cells #[.string M.name, .int .i64 M.how, .slice a M.words.length c] 25))
    have HLZ := Lib.hid hlz
    have hsz := hS.call ((Below.refl _ _).alloc (Nat.le_refl _) (.cells #[.string M.name, .int .i64 M.how, .slice a M.words.length c] 25))
    have HSZ := Lib.hid hsz
    have hmz := hmc2.call ((Below.refl _ _).alloc (Nat.le_refl _) (.cells #[.string M.name, .int .i64 M.how, .slice a M.words.length c] 25))
    have HMZ := Lib.hid hmz
    obtain ⟨z0, z1, z2⟩ := hK.cells3
    clear hhold hhold2 hspec hbz hkz hlz hsz hmz hK hb hL hS hmc2 hB hE
    go_upto_region 3 with (go_at_call 11; (with_reducible refine HH.out.mono ?_); rintro e w5 ⟨rfl, hb5⟩)
    have hb6 := bthen HBZ.out hb5
    have hk6 := HKZ.out.call hb5
    have hl6 := HLZ.out.call hb5
    have hs6 := HSZ.out.call hb5
    have hm6 := HMZ.out.call hb5
    clear HH HK HB HL HS HMC HBZ HKZ HLZ HSZ HMZ hb5 z0 z1 z2
    rcases HSP.out with ⟨hne, rfl⟩ | ⟨rfl, hrm, hBq⟩
    · have he : (E != 0) = true := bne_iff_ne.2 hne
      have HB6 := Lib.hid hb6
      have HM6 := Lib.hid hm6
      clear HSP hk6 hl6 hs6 hb6 hm6 hne
      go_wp2_with (go_at_call 16; refine (alive_any _ HM6.out).mono ?_; rintro e w7 ⟨rfl, hb7⟩)
      go_ret
      exact ⟨rfl, bthen HB6.out hb7⟩
    · have HB6 := Lib.hid hb6
      have HM6 := Lib.hid hm6
      have HK6 := Lib.hid hk6
      have HL6 := Lib.hid hl6
      have HS6 := Lib.hid hs6
      have HRM := Lib.hid hrm
      have HBQ := Lib.hid hBq
      clear HSP hk6 hl6 hs6 hb6 hm6 hrm hBq
      go_upto_region 6 with fail
      go_loopw [32] (fun i wr => ∃ k : Nat, k ≤ L.length ∧ i = .int .i64 k ∧ (∀ j (h : j < L.length), j < k → L[j].1 ≠ M.name) ∧ Below w5.heap.size w5 wr) (fun i _ => L.length - (intOf i).toNat)
      case atStart => exact ⟨0, Nat.zero_le _, rfl, fun j h hj => absurd hj (by omega), Below.refl _ _⟩
      case round =>
        obtain ⟨k, hk, rfl, hno, hbr⟩ := hrel
        have HNO := Lib.hid hno
        clear hno
        by_cases hkl : k < L.length
        · obtain ⟨b, off, rfl, hbb, hcell⟩ := (HL6.out.call hbr).some k hkl
          obtain ⟨hc1, hc2⟩ := hcell k hkl
          obtain ⟨X, hX⟩ : ∃ X, L[k] = X := ⟨_, rfl⟩
          have HX := Lib.hid hX
          rw [hX] at hc1 hc2
          have hkk := (HK6.out.call hbr).alloc (.cells #[.string X.1, .string X.2] 49)
          have hbx := Blk.new wr 49 #[.string X.1, .string X.2]
          have hbe := hbr.alloc hbr.size (.cells #[.string X.1, .string X.2] 49)
          obtain ⟨y0, y1, y2⟩ := hkk.cells3
          have q0 := hbx.cell 0
          have q1 := hbx.cell 1
          have HBE := Lib.hid hbe
          clear hcell hbb hX hkk hbx hbe
          cases hq : (X.1.toList == M.name.toList) with
          | true =>
            have hmx := (HM6.out.call hbr).call ((Below.refl _ wr).alloc (Nat.le_refl _) (.cells #[.string X.1, .string X.2] 49))
            have HMX := Lib.hid hmx
            clear hmx
            go_wp2_with (go_at_call 16; refine (alive_any _ HMX.out).mono ?_; rintro e w7 ⟨rfl, hb7⟩)
            go_ret
            exact ⟨rfl, bthen (bthen HB6.out HBE.out) hb7⟩
          | false =>
            have hne : X.1 ≠ M.name := fun e => by rw [e] at hq; simp at hq
            have HNE := Lib.hid hne
            clear hne
            go_wp2
            go_roundw
            case rel =>
              refine ⟨k + 1, by omega, by go_num, fun j h hj => ?_, HBE.out⟩
              by_cases e : j < k
              · exact HNO.out j h e
              · obtain rfl : j = k := by omega
                rw [HX.out]; exact HNE.out
            case measure => simp [intOf]; omega
        · have hall : ∀ l ∈ L, l.1 ≠ M.name := fun l hl => by
            obtain ⟨j, hj, rfl⟩ := List.getElem_of_mem hl
            exact HNO.out j hj (by omega)
          have hget : getL L M.name = ⟨#[]⟩ := by
            rcases get_cases L M.name with ⟨j, hj, g1, _⟩ | ⟨_, g2⟩
            · exact absurd g1 (hall _ (List.getElem_mem hj))
            · exact g2
          have hB7 : B = holdsM ⟨#[]⟩ M := by rw [← hget]; exact HBQ.out
          have HB7 := Lib.hid hB7
          have hkk := HK6.out.call hbr
          have hss := HS6.out.call hbr
          have HMX := Lib.hid (HM6.out.call hbr)
          have HBR := Lib.hid (bthen HB6.out hbr)
          obtain ⟨y0, y1, y2⟩ := hkk.cells3
          have hwl2 : M.words.length ≤ 10 := hwl
          have HKK := Lib.hid hkk
          clear HK6 HS6 HM6 HB6 hbr hall hget hB7 hkk y0 y1
          have htk : ∀ k (h : k < M.words.length), inB ⟨#[]⟩ (M.words.take (k + 1)) = (inB ⟨#[]⟩ (M.words.take k) || decide (M.words[k] = ⟨#[]⟩)) := fun k h => by
            rw [List.take_succ_eq_append_getElem h, inB, List.any_append]; simp [inB]
          have HTK := Lib.hid htk
          have HSS := Lib.hid hss
          clear htk hss
          go_upto_region 13 with fail
          go_loop [46, 9] (fun i e => ∃ k : Nat, k ≤ M.words.length ∧ i = .int .i64 k ∧ e = .bool (inB ⟨#[]⟩ (M.words.take k))) (fun i _ => M.words.length - (intOf i).toNat)
          case atStart => exact ⟨0, Nat.zero_le _, rfl, rfl⟩
          case round =>
            obtain ⟨n, hn, rfl, rfl⟩ := hrel
            by_cases hnl : n < M.words.length
            · obtain ⟨_, _, _, h4⟩ := HSS.out
              rcases h4 with h4 | ⟨b, off, rfl, _, hcell⟩
              · rw [h4] at hnl; simp at hnl
              have hc := hcell n hnl
              have ht := HTK.out n hnl
              obtain ⟨X, hX⟩ : ∃ X, M.words[n] = X := ⟨_, rfl⟩
              rw [hX] at hc ht
              obtain ⟨Y, hY⟩ : ∃ Y, inB ⟨#[]⟩ (M.words.take n) = Y := ⟨_, rfl⟩
              rw [hY] at ht ⊢
              have HT := Lib.hid ht
              clear hcell hX ht hY
              by_cases hx : X = ⟨#[]⟩
              · subst hx
                cases Y with
                | true =>
                  go_wp2
                  go_round
                  case rel => exact ⟨n + 1, by omega, by go_num, by rw [HT.out]; rfl⟩
                  case measure => simp [intOf]; omega
                | false =>
                  go_wp2
                  go_round
                  case rel => exact ⟨n + 1, by omega, by go_num, by rw [HT.out]; rfl⟩
                  case measure => simp [intOf]; omega
              · have hq : (X.toList == []) = false := by
                  rw [beq_eq_false_iff_ne]
                  intro e
                  rw [ByteArray.toList_eq] at e
                  exact hx (bytes_ext e)
                have hq2 : X.toList.isEmpty = false := by
                  cases h : X.toList with
                  | nil => rw [h] at hq; cases hq
                  | cons _ _ => rfl
                have hxd : decide (X = ⟨#[]⟩) = false := decide_eq_false hx
                have HXD := Lib.hid hxd
                clear hxd hx
                cases Y with
                | true =>
                  go_wp2
                  go_round
                  case rel => exact ⟨n + 1, by omega, by go_num, by rw [HT.out]; rfl⟩
                  case measure => simp [intOf]; omega
                | false =>
                  go_wp2
                  go_round
                  case rel => exact ⟨n + 1, by omega, by go_num, by rw [HT.out, HXD.out]; rfl⟩
                  case measure => simp [intOf]; omega
            · obtain rfl : n = M.words.length := by omega
              rw [List.take_length]
              obtain ⟨h1, h4⟩ : 1 ≤ M.how ∧ M.how ≤ 4 := by
                have := (rightM_iff M).1 HRM.out
                exact ⟨this.2.1, this.2.2.1⟩
              have hfin : B = (inB ⟨#[]⟩ M.words == onesC M.how) := HB7.out
              generalize inB ⟨#[]⟩ M.words = Y at *
              clear HTK HB7 HRM HNO HBQ hwf
              generalize M.how = hw at *
              have hi4 : hw = 1 ∨ hw = 2 ∨ hw = 3 ∨ hw = 4 := by omega
              clear h1 h4
              rcases hi4 with rfl | rfl | rfl | rfl <;> cases Y <;> simp only [show onesC 1 = true from rfl, show onesC 2 = false from rfl, show onesC 3 = true from rfl, show onesC 4 = false from rfl] at hfin <;> (first | rw [show (false == true) = false from rfl] at hfin | rw [show (true == true) = true from rfl] at hfin | rw [show (false == false) = true from rfl] at hfin | rw [show (true == false) = false from rfl] at hfin) <;> subst hfin
              all_goals
                go_wp2_with (go_at_call 16; refine (alive_any _ HMX.out).mono ?_; rintro e w7 ⟨rfl, hb7⟩; obtain ⟨t0, t1, t2⟩ := (HKK.out.call hb7).cells3)
                go_ret
                exact ⟨rfl, bthen HBR.out hb7⟩
end Go.Proofs.YtkobpanjnfdgoaaDoor
