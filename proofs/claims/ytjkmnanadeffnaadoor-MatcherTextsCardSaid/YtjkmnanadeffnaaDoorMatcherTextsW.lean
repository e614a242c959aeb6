/- The walk of MatcherTexts. -/
import Derived.Test.YtjkmnanadeffnaaDoorRPar
import Derived.Test.YtjkmnanadeffnaaDoorMatcherBackW
namespace Go.Proofs.YtjkmnanadeffnaaDoor
open Go.RowKit Go.Maps

set_option maxHeartbeats 12800000 in
set_option maxRecDepth 100000 in
theorem matcherTexts_walk {w : World} (v1 : Value) (m1 : Mat) (w1 : HasMat w v1 m1) (a2 : ByteArray) (w2 : a2.size ≤ maxLen) (hmc : MaxC w) :
    Calls Tryd.prog 4 #[v1, .string a2] w fun e w' => e = .returned (.bool true) ∧ Below w.heap.size w w' := by
  obtain ⟨a1, c1, rfl, hs1, hn1, hwf1⟩ := w1
  have H1 := Lib.hid (fun W (hb : Below w.heap.size w W) => (⟨a1, c1, rfl, hs1.call hb, hn1, hwf1⟩ : HasMat W _ m1))
  have HMC := Lib.hid hmc
  unfold maxLen at w2
  have hmn := run_min700 (P := Tryd.prog)
  clear hs1 hn1 hmc
  go_enter Tryd.func4, Tryd.ntmps4
  go_upto_region 1 with fail
  have hblk := Blk.new w 25 #[.string m1.name, .int .i64 m1.how, .slice a1 m1.words.length c1]
  have hb0 : Below w.heap.size w (w.alloc (.cells #[.string m1.name, .int .i64 m1.how, .slice a1 m1.words.length c1] 25)) := (Below.refl _ _).alloc (Nat.le_refl _) _
  generalize w.alloc (.cells #[.string m1.name, .int .i64 m1.how, .slice a1 m1.words.length c1] 25) = wx at *
  have HB := Lib.hid hblk
  have HB0 := Lib.hid hb0
  obtain ⟨x0, x1, x2⟩ := hblk.cells3
  clear hblk hb0
  go_cut [1] (fun s wy => ∃ a c S, s = .string S ∧ S.size ≤ 700 ∧ Blk wy w.heap.size 25 #[.string (cutM m1).name, .int .i64 m1.how, .slice a (cutM m1).words.length c] ∧ HasStrs wy a c (cutM m1).words ∧ Below w.heap.size w wy)
  case first =>
    go_region_with (go_at_call 10; (with_reducible refine (cut_any _ m1 _ ?_).mono ?_); (first | exact H1.out _ HB0.out.drew); rintro e wc ⟨ac, cc, rfl, hS, hF, hbc⟩; have hkc := HB.out.drew.call hbc; obtain ⟨y0, y1, y2⟩ := hkc.cells3; have g0 := hkc.frozen 0; have g1 := hkc.frozen 1; have g2 := hkc.frozen 2)
    all_goals
      go_wp2_with fail
      go_meet
      exact ⟨ac, cc, _, rfl, (by simp; omega), hkc.set3 _ _ _, hS.set3F (fun b o s e => Nat.lt_trans HB.out.lt (hF b o s e)) _ _ _, below_set3 (bthen HB0.out.drew hbc) (Nat.le_refl _) _ _ _⟩
  case rest =>
    clear x0 x1 x2
    obtain ⟨a, c, S, rfl, hSz, hK, hS, hb⟩ := hcut
    have hmc2 := HMC.out.call hb
    have hnm : (cutM m1).name.size ≤ maxLen := cutM_name m1
    have hhw : (cutM m1).how = m1.how := rfl
    rw [← hhw] at hK hwf1
    clear HB HB0 H1 HMC hhw w2
    generalize cutM m1 = M at *
    have hM : ∀ W, Below wc.heap.size wc W → HasMat W (.agg #[.string M.name, .int .i64 M.how, .slice a M.words.length c]) M := fun W h => ⟨a, c, rfl, hS.call h, hnm, hwf1⟩
    have HM := Lib.hid hM
    have HK := Lib.hid (fun W (h : Below wc.heap.size wc W) => (hK.call h).cells3)
    have HB := Lib.hid hb
    have HMC := Lib.hid hmc2
    have ht := mText_any _ M wc (hM _ (Below.refl _ _))
    unfold TextPost at ht
    have hrr := fun W (h : Below wc.heap.size wc W) => r4Right_any _ M W (hM W h)
    obtain ⟨y0, y1, y2⟩ := hK.cells3
    clear hK hb hmc2 hS hnm hwf1
    have hps := fun V (h : MaxC V) => mParse_any S V h (by omega)
    have hpr := fun V => r4Parse_any S V (by omega)
    have hw7 : ∃ R, parseM S.data.toList = R ∧ (R = none ∨ ∃ X, R = some X ∧ rightM X = true) := ⟨_, rfl, by
      cases h : parseM S.data.toList with
      | none => exact .inl rfl
      | some X => exact .inr ⟨X, rfl, ((parseM_iff _ _).1 h).1⟩⟩
    obtain ⟨R, hR, hRc⟩ := hw7
    rw [hR] at hps hpr
    clear hR
    have hal := fun V (h : MaxC V) => alive_any V h
    have HAL := Lib.hid hal
    have hwr : (rightM M = false ∧ textV M = ⟨#[]⟩ ∧ textE M = 1) ∨ (rightM M = true ∧ textV M = ⟨(textM M).toArray⟩ ∧ textE M = 0) := by
      cases hr : rightM M with
      | false => exact .inl ⟨rfl, by simp [textV, hr], by simp [textE, hr]⟩
      | true => exact .inr ⟨rfl, by simp [textV, hr], by simp [textE, hr]⟩
    rcases hRc with rfl | ⟨X, rfl, hrX⟩
    · have hp2 : ∀ V (h : MaxC V), Calls Tryd.prog 20 #[.string S] V fun e w' => e = .returned (.tuple #[.agg #[.string ⟨#[]⟩, .int .i64 0, .slice none 0 0], .int .i64 6]) ∧ Below V.heap.size V w' := hps
      have hp3 : ∀ V, Calls Tryd.prog 21 #[.string S] V fun e w' => e = .returned (.tuple #[.agg #[.string ⟨#[]⟩, .int .i64 0, .slice none 0 0], .bool false]) ∧ Below V.heap.size V w' := hpr
      have hlz : ∀ V, Calls Tryd.prog 15 #[.agg #[.string ⟨#[]⟩, .int .i64 0, .slice none 0 0], .agg #[.string ⟨#[]⟩, .int .i64 0, .slice none 0 0]] V (BoolB true V) := fun V => by
        have := rLike_any zeroMat zeroMat _ _ V (hasMat_zero V) (hasMat_zero V)
        rw [likeM_self] at this
        exact this
      have HP2 := Lib.hid hp2
      have HP3 := Lib.hid hp3
      have HLZ := Lib.hid hlz
      clear hp2 hp3 hlz hps hpr hM hal
      rcases hwr with ⟨hr, e1, e2⟩ | ⟨hr, e1, e2⟩
      · rw [e1, e2] at ht
        rw [hr] at hrr
        have HT := Lib.hid ht
        have HRR := Lib.hid hrr
        clear ht hrr hr e1 e2
        go_wp2_with (first
          | (go_at_call 19; (with_reducible refine HT.out.mono ?_); rintro e w2 ⟨rfl, hb2⟩; have hm2 := HMC.out.call hb2)
          | (go_at_call 20; (with_reducible refine (HP2.out _ hm2).mono ?_); rintro e w3 ⟨rfl, hb3⟩; have hb23 := bthen hb2 hb3; have hba := (Below.refl _ w3).alloc (Nat.le_refl _) (.cells #[.string ⟨#[]⟩, .int .i64 0, .slice none 0 0] 25); have hxb := Blk.new w3 25 #[.string ⟨#[]⟩, .int .i64 0, .slice none 0 0])
          | (go_at_call 21; (with_reducible refine (HP3.out _).mono ?_); rintro e w4 ⟨rfl, hb4⟩; have hb34 := bthen hba hb4; obtain ⟨v0, v1, v2⟩ := ((hxb.call hb4).alloc (.cells #[.string ⟨#[]⟩, .int .i64 0, .slice none 0 0] 25)).cells3; have hb24 := bthen hb23 (bthen hb34 ((Below.refl _ w4).alloc (Nat.le_refl _) (.cells #[.string ⟨#[]⟩, .int .i64 0, .slice none 0 0] 25))))
          | (go_at_call 15; (with_reducible refine (HLZ.out _).mono ?_); rintro e w5 ⟨rfl, hb5⟩; have hb25 := bthen hb24 hb5)
          | (go_at_call 16; (with_reducible refine (HAL.out _ (HMC.out.call hb25)).mono ?_); rintro e w6 ⟨rfl, hb6⟩; have hb26 := bthen hb25 hb6; obtain ⟨z0, z1, z2⟩ := HK.out _ hb26)
          | (go_at_call 13; (with_reducible refine (HRR.out _ hb26).mono ?_); rintro e w7 ⟨rfl, hb7⟩))
        go_ret
        exact ⟨rfl, bthen HB.out (bthen hb26 hb7)⟩
      · rw [e1, e2] at ht
        rw [hr] at hrr
        have htx := fun W (h : Below wc.heap.size wc W) => r4Text_any _ M W (HM.out W h) hr
        have HTX := Lib.hid htx
        have HT := Lib.hid ht
        have HRR := Lib.hid hrr
        clear ht hrr hr e1 e2 htx
        go_wp2_with (first
          | (go_at_call 19; (with_reducible refine HT.out.mono ?_); rintro e w2 ⟨rfl, hb2⟩; have hm2 := HMC.out.call hb2)
          | (go_at_call 20; (with_reducible refine (HP2.out _ hm2).mono ?_); rintro e w3 ⟨rfl, hb3⟩; have hb23 := bthen hb2 hb3; have hba := (Below.refl _ w3).alloc (Nat.le_refl _) (.cells #[.string ⟨#[]⟩, .int .i64 0, .slice none 0 0] 25); have hxb := Blk.new w3 25 #[.string ⟨#[]⟩, .int .i64 0, .slice none 0 0])
          | (go_at_call 21; (with_reducible refine (HP3.out _).mono ?_); rintro e w4 ⟨rfl, hb4⟩; have hb34 := bthen hba hb4; obtain ⟨v0, v1, v2⟩ := ((hxb.call hb4).alloc (.cells #[.string ⟨#[]⟩, .int .i64 0, .slice none 0 0] 25)).cells3; have hb24 := bthen hb23 (bthen hb34 ((Below.refl _ w4).alloc (Nat.le_refl _) (.cells #[.string ⟨#[]⟩, .int .i64 0, .slice none 0 0] 25))))
          | (go_at_call 15; (with_reducible refine (HLZ.out _).mono ?_); rintro e w5 ⟨rfl, hb5⟩; have hb25 := bthen hb24 hb5)
          | (go_at_call 16; (with_reducible refine (HAL.out _ (HMC.out.call hb25)).mono ?_); rintro e w6 ⟨rfl, hb6⟩; have hb26 := bthen hb25 hb6; obtain ⟨z0, z1, z2⟩ := HK.out _ hb26)
          | (go_at_call 13; (with_reducible refine (HRR.out _ hb26).mono ?_); rintro e w7 ⟨rfl, hb7⟩; have hb27 := bthen hb26 hb7; obtain ⟨q0, q1, q2⟩ := HK.out _ hb27)
          | (go_at_call 22; (with_reducible refine (HTX.out _ hb27).mono ?_); rintro e w8 ⟨rfl, hb8⟩))
        go_ret
        exact ⟨rfl, bthen HB.out (bthen hb27 hb8)⟩
    · have hp2 : ∀ V (h : MaxC V), Calls Tryd.prog 20 #[.string S] V fun e w' => (∃ a c, e = .returned (.tuple #[.agg #[.string X.name, .int .i64 X.how, .slice a X.words.length c], .int .i64 0]) ∧ HasStrs w' a c X.words) ∧ Below V.heap.size V w' := hps
      have hp3 : ∀ V, Calls Tryd.prog 21 #[.string S] V fun e w' => (∃ a c, e = .returned (.tuple #[.agg #[.string X.name, .int .i64 X.how, .slice a X.words.length c], .bool true]) ∧ HasStrs w' a c X.words) ∧ Below V.heap.size V w' := hpr
      have hlz := fun v v' V (h : HasMat V v X) (h' : HasMat V v' X) => rLike_any v v' X X V h h'
      rw [likeM_self] at hlz
      have hwf := how_wf hrX
      have hsz := (right_words hrX).2.2.2
      have hnl : X.name.size ≤ maxLen := by unfold maxLen; omega
      have HP2 := Lib.hid hp2
      have HP3 := Lib.hid hp3
      have HLZ := Lib.hid hlz
      clear hp2 hp3 hlz hps hpr hM hal hrX hsz
      rcases hwr with ⟨hr, e1, e2⟩ | ⟨hr, e1, e2⟩
      · rw [e1, e2] at ht
        rw [hr] at hrr
        have HT := Lib.hid ht
        have HRR := Lib.hid hrr
        clear ht hrr hr e1 e2
        go_wp2_with (first
          | (go_at_call 19; (with_reducible refine HT.out.mono ?_); rintro e w2 ⟨rfl, hb2⟩; have hm2 := HMC.out.call hb2)
          | (go_at_call 20; (with_reducible refine (HP2.out _ hm2).mono ?_); rintro e w3 ⟨⟨a3, c3, rfl, hS3⟩, hb3⟩; have hb23 := bthen hb2 hb3; have hba := (Below.refl _ w3).alloc (Nat.le_refl _) (.cells #[.string X.name, .int .i64 X.how, .slice a3 X.words.length c3] 25); have hxb := Blk.new w3 25 #[.string X.name, .int .i64 X.how, .slice a3 X.words.length c3])
          | (go_at_call 21; (with_reducible refine (HP3.out _).mono ?_); rintro e w4 ⟨⟨a4, c4, rfl, hS4⟩, hb4⟩; have hb34 := bthen hba hb4; have hb4a := (Below.refl _ w4).alloc (Nat.le_refl _) (.cells #[.string X.name, .int .i64 X.how, .slice a4 X.words.length c4] 25); obtain ⟨v0, v1, v2⟩ := ((hxb.call hb4).alloc (.cells #[.string X.name, .int .i64 X.how, .slice a4 X.words.length c4] 25)).cells3; have hb24 := bthen hb23 (bthen hb34 hb4a); have hS3' := hS3.call (bthen hb34 hb4a); have hS4' := hS4.call hb4a)
          | (go_at_call 15; (with_reducible refine (HLZ.out _ _ _ ?_ ?_).mono ?_); (first | exact ⟨a3, c3, rfl, hS3', hnl, hwf⟩); (first | exact ⟨a4, c4, rfl, hS4', hnl, hwf⟩); rintro e w5 ⟨rfl, hb5⟩; have hb25 := bthen hb24 hb5)
          | (go_at_call 16; (with_reducible refine (HAL.out _ (HMC.out.call hb25)).mono ?_); rintro e w6 ⟨rfl, hb6⟩; have hb26 := bthen hb25 hb6; obtain ⟨z0, z1, z2⟩ := HK.out _ hb26)
          | (go_at_call 13; (with_reducible refine (HRR.out _ hb26).mono ?_); rintro e w7 ⟨rfl, hb7⟩))
        go_ret
        exact ⟨rfl, bthen HB.out (bthen hb26 hb7)⟩
      · rw [e1, e2] at ht
        rw [hr] at hrr
        have htx := fun W (h : Below wc.heap.size wc W) => r4Text_any _ M W (HM.out W h) hr
        have HTX := Lib.hid htx
        have HT := Lib.hid ht
        have HRR := Lib.hid hrr
        clear ht hrr hr e1 e2 htx
        go_wp2_with (first
          | (go_at_call 19; (with_reducible refine HT.out.mono ?_); rintro e w2 ⟨rfl, hb2⟩; have hm2 := HMC.out.call hb2)
          | (go_at_call 20; (with_reducible refine (HP2.out _ hm2).mono ?_); rintro e w3 ⟨⟨a3, c3, rfl, hS3⟩, hb3⟩; have hb23 := bthen hb2 hb3; have hba := (Below.refl _ w3).alloc (Nat.le_refl _) (.cells #[.string X.name, .int .i64 X.how, .slice a3 X.words.length c3] 25); have hxb := Blk.new w3 25 #[.string X.name, .int .i64 X.how, .slice a3 X.words.length c3])
          | (go_at_call 21; (with_reducible refine (HP3.out _).mono ?_); rintro e w4 ⟨⟨a4, c4, rfl, hS4⟩, hb4⟩; have hb34 := bthen hba hb4; have hb4a := (Below.refl _ w4).alloc (Nat.le_refl _) (.cells #[.string X.name, .int .i64 X.how, .slice a4 X.words.length c4] 25); obtain ⟨v0, v1, v2⟩ := ((hxb.call hb4).alloc (.cells #[.string X.name, .int .i64 X.how, .slice a4 X.words.length c4] 25)).cells3; have hb24 := bthen hb23 (bthen hb34 hb4a); have hS3' := hS3.call (bthen hb34 hb4a); have hS4' := hS4.call hb4a)
          | (go_at_call 15; (with_reducible refine (HLZ.out _ _ _ ?_ ?_).mono ?_); (first | exact ⟨a3, c3, rfl, hS3', hnl, hwf⟩); (first | exact ⟨a4, c4, rfl, hS4', hnl, hwf⟩); rintro e w5 ⟨rfl, hb5⟩; have hb25 := bthen hb24 hb5)
          | (go_at_call 16; (with_reducible refine (HAL.out _ (HMC.out.call hb25)).mono ?_); rintro e w6 ⟨rfl, hb6⟩; have hb26 := bthen hb25 hb6; obtain ⟨z0, z1, z2⟩ := HK.out _ hb26)
          | (go_at_call 13; (with_reducible refine (HRR.out _ hb26).mono ?_); rintro e w7 ⟨rfl, hb7⟩; have hb27 := bthen hb26 hb7; obtain ⟨q0, q1, q2⟩ := HK.out _ hb27)
          | (go_at_call 22; (with_reducible refine (HTX.out _ hb27).mono ?_); rintro e w8 ⟨rfl, hb8⟩))
        go_ret
        exact ⟨rfl, bthen HB.out (bthen hb27 hb8)⟩
end Go.Proofs.YtjkmnanadeffnaaDoor
