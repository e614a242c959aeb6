/- The walk of MatcherBack. -/
import Derived.Test.YtjkmnanadeffnaaDoorMatU
import Derived.Test.YtjkmnanadeffnaaDoorMatK
import Derived.Test.YtjkmnanadeffnaaDoorMatI
import Derived.Test.YtjkmnanadeffnaaDoorMatH
import Derived.Test.YtjkmnanadeffnaaDoorMatJ
import Derived.Test.YtjkmnanadeffnaaDoorIdxA
import Derived.Deep.RegionWith
namespace Go.Proofs.YtjkmnanadeffnaaDoor
open Go.RowKit Go.Maps

theorem run_min700 {P : Program} (w : World) (ts : Array TypeId) (t : TypeId) (x : Nat) : (Builtin.min_ ts t #[.int .i64 (x : Int), .int .i64 700]).run P w = .ok (.int .i64 ((min x 700 : Nat) : Int)) w := by
  simp [Builtin.min_, Builtin.min2]
  repeat' split
  all_goals omega
theorem mParse_any (s : ByteArray) (w : World) (hm : MaxC w) (hs : s.size ≤ 1000000) : Calls Tryd.prog 20 #[.string s] w (ParsePost (parseM s.data.toList) w) :=
  parse_of s w hm hs fun W => indexAny_any _ W (by
    have h := pHead_len s.data.toList
    have e : s.data.toList.length = s.size := by simp
    have e2 : (⟨(pHead s.data.toList).toArray⟩ : ByteArray).size = (pHead s.data.toList).length := by simp [ByteArray.size]
    omega)
theorem likeM_self (m : Mat) : likeM m m = true := by simp [likeM]
theorem right_zero : rightM ⟨⟨#[]⟩, 0, []⟩ = false := by decide
theorem hasMat_zero (W : World) : HasMat W zeroMat ⟨⟨#[]⟩, 0, []⟩ := ⟨none, 0, rfl, HasStrs.nil _ _ _ (by unfold maxLen; omega), by unfold maxLen; decide, by decide⟩
theorem textM_size {m : Mat} (h : rightM m = true) : (⟨(textM m).toArray⟩ : ByteArray).size ≤ 1000000 := by
  obtain ⟨q1, q2, q3, q4⟩ := right_words h
  have hj := joinW_len m.words q1 q3
  have hsg : (signT m.how).length ≤ 2 := by
    unfold signT
    rcases signC_cases m.how with ⟨_, e⟩ | ⟨_, e⟩ | ⟨_, e⟩ | ⟨_, e⟩ | ⟨_, e⟩ <;> rw [e] <;> simp
  have e : m.name.data.toList.length = m.name.size := by simp
  simp only [textM, ByteArray.size, List.size_toArray, List.length_append, List.length_cons, List.length_nil]
  omega
theorem how_wf {m : Mat} (h : rightM m = true) : (Lit.int .i64 m.how).wf = true := by
  obtain ⟨_, h1, h4, _⟩ := (rightM_iff m).1 h
  exact WalkArith.wf_i64 (by omega)

set_option maxHeartbeats 12800000 in
set_option maxRecDepth 100000 in
theorem matcherBack_walk {w : World} (v1 : Value) (m1 : Mat) (w1 : HasMat w v1 m1) (a2 : ByteArray) (w2 : a2.size ≤ maxLen) (hmc : MaxC w) :
    Calls Tryd.prog 5 #[v1, .string a2] w fun e w' => e = .returned (.bool true) ∧ Below w.heap.size w w' := by
  obtain ⟨a1, c1, rfl, hs1, hn1, hwf1⟩ := w1
  have H1 := Lib.hid (fun W (hb : Below w.heap.size w W) => (⟨a1, c1, rfl, hs1.call hb, hn1, hwf1⟩ : HasMat W _ m1))
  have HMC := Lib.hid hmc
  unfold maxLen at w2
  have hmn := run_min700 (P := Tryd.prog)
  clear hs1 hn1 hmc
  go_enter Tryd.func5, Tryd.ntmps5
  go_upto_region 1 with fail
  have hblk := Blk.new w 25 #[.string m1.name, .int .i64 m1.how, .slice a1 m1.words.length c1]
  have hb0 : Below w.heap.size w (w.alloc (.cells #[.string m1.name, .int .i64 m1.how, .slice a1 m1.words.length c1] 25)) := (Below.refl _ _).alloc (Nat.le_refl _) _
  generalize w.alloc (.cells #[.string m1.name, .int .i64 m1.how, .slice a1 m1.words.length c1] 25) = wx at *
  have HB := Lib.hid hblk
  have HB0 := Lib.hid hb0
  obtain ⟨x0, x1, x2⟩ := hblk.cells3
  clear hblk hb0
  go_cut [1] (fun s wy => ∃ a c S, s = .string S ∧ S.size ≤ 700 ∧ Blk wy w.heap.size 25 #[.string (cutM m1).name, .int .i64 m1.how, .slice a (cutM m1).words.length c] ∧ HasStrs wy a c (cutM m1).words ∧ Below w.heap.size w wy)
  case first =>
    go_region_with (go_at_call 10; (with_reducible refine (cut_any _ m1 _ ?_).mono ?_); (first | exact H1.out _ HB0.out.drew); rintro e wc ⟨ac, cc, rfl, hS, hF, hbc⟩; have hkc := HB.out.drew.call hbc; obtain ⟨y0, y1, y2⟩ := hkc.cells3; have g0 := hkc.frozen 0; have g1 := hkc.frozen 1; have g2 := hkc.frozen 2)
    all_goals
      go_wp2_with fail
      go_meet
      exact ⟨ac, cc, _, rfl, (by simp; omega), hkc.set3 _ _ _, hS.set3F (fun b o s e => Nat.lt_trans HB.out.lt (hF b o s e)) _ _ _, below_set3 (bthen HB0.out.drew hbc) (Nat.le_refl _) _ _ _⟩
  case rest =>
    clear x0 x1 x2
    obtain ⟨a, c, S, rfl, hSz, hK, hS, hb⟩ := hcut
    have hmc2 := HMC.out.call hb
    have hnm : (cutM m1).name.size ≤ maxLen := cutM_name m1
    have hhw : (cutM m1).how = m1.how := rfl
    rw [← hhw] at hK hwf1
    clear HB HB0 H1 HMC hhw w2
    generalize cutM m1 = M at *
    have hM : ∀ W, Below wc.heap.size wc W → HasMat W (.agg #[.string M.name, .int .i64 M.how, .slice a M.words.length c]) M := fun W h => ⟨a, c, rfl, hS.call h, hnm, hwf1⟩
    have HM := Lib.hid hM
    have HK := Lib.hid hK
    have HB := Lib.hid hb
    have HMC := Lib.hid hmc2
    have ht := mText_any _ M wc (hM _ (Below.refl _ _))
    unfold TextPost at ht
    obtain ⟨y0, y1, y2⟩ := hK.cells3
    clear hM hK hb hmc2 hS hnm hwf1
    have hw7 : ∃ R, parseM S.data.toList = R ∧ (R = none ∨ ∃ X, R = some X ∧ rightM X = true ∧ (⟨(textM X).toArray⟩ : ByteArray) = S) := ⟨_, rfl, by
      cases h : parseM S.data.toList with
      | none => exact .inl rfl
      | some X =>
        obtain ⟨h1, h2⟩ := (parseM_iff _ _).1 h
        exact .inr ⟨X, rfl, h1, bytes_ext h2⟩⟩
    obtain ⟨R, hR, hRc⟩ := hw7
    have hps := fun V (h : MaxC V) => mParse_any S V h (by omega)
    rw [hR] at hps
    have HPS := Lib.hid hps
    have HRC := Lib.hid hRc
    clear hR hRc hps
    cases hr : rightM M
    case' false =>
      have e1 : textV M = ⟨#[]⟩ := by simp [textV, hr]
      have e2 : textE M = 1 := by simp [textE, hr]
      rw [e1, e2] at ht
      have HT := Lib.hid ht
      clear ht e1 e2 hr
      go_upto_region 7 with (go_at_call 19; (with_reducible refine HT.out.mono ?_); rintro e w2 ⟨rfl, hb2⟩)
      have hb7 := bthen HB.out hb2
      have hm7 := HMC.out.call hb2
      clear HM HK HB HMC y0 y1 y2 HT hb2
    case' true =>
      have e1 : textV M = ⟨(textM M).toArray⟩ := by simp [textV, hr]
      have e2 : textE M = 0 := by simp [textE, hr]
      rw [e1, e2] at ht
      have HT := Lib.hid ht
      have hp := fun V (h : MaxC V) => mParse_any ⟨(textM M).toArray⟩ V h (textM_size hr)
      have e3 : (⟨(textM M).toArray⟩ : ByteArray).data.toList = textM M := by simp
      rw [e3, parseM_text M hr] at hp
      have hp2 : ∀ V (h : MaxC V), Calls Tryd.prog 20 #[.string ⟨(textM M).toArray⟩] V fun e w' => (∃ a c, e = .returned (.tuple #[.agg #[.string M.name, .int .i64 M.how, .slice a M.words.length c], .int .i64 0]) ∧ HasStrs w' a c M.words) ∧ Below V.heap.size V w' := hp
      have HP := Lib.hid hp2
      have hlk := fun v v' V (h : HasMat V v M) (h' : HasMat V v' M) => like_any v v' M M V h h'
      rw [likeM_self] at hlk
      have HLK := Lib.hid hlk
      have hwf := how_wf hr
      have hsz := (right_words hr).2.2.2
      have hnl : M.name.size ≤ maxLen := by unfold maxLen; omega
      clear ht e1 e2 e3 hp hp2 hlk hr hsz
      go_upto_region 7 with (first
        | (go_at_call 19; (with_reducible refine HT.out.mono ?_); rintro e w2 ⟨rfl, hb2⟩; have hm2 := HMC.out.call hb2)
        | (go_at_call 20; (with_reducible refine (HP.out _ hm2).mono ?_); rintro e w3 ⟨⟨a', c', rfl, hS'⟩, hb3⟩; have hb23 := bthen hb2 hb3; obtain ⟨z0, z1, z2⟩ := ((HK.out.call hb23).alloc (.cells #[.string M.name, .int .i64 M.how, .slice a' M.words.length c'] 25)).cells3)
        | (go_at_call 14; (with_reducible refine (HLK.out _ _ _ ?_ ?_).mono ?_); (first | exact ⟨a', c', rfl, hS'.call ((Below.refl _ _).alloc (Nat.le_refl _) _), hnl, hwf⟩); (first | exact HM.out _ (bthen hb23 ((Below.refl _ _).alloc (Nat.le_refl _) _))); rintro e w4 ⟨rfl, hb4⟩))
      have hb234 := bthen hb23 (((Below.refl _ _).alloc (Nat.le_refl _) _).trans (hb4.mono (by simp)))
      have hb7 := bthen HB.out hb234
      have hm7 := HMC.out.call hb234
      clear HM HK HB HMC y0 y1 y2 HT hb2 hb3 hb4 hb23 hb234 z0 z1 z2 hS' HP HLK hwf hnl hm2
    all_goals
      have HB7 := Lib.hid hb7
      have HM7 := Lib.hid hm7
      clear hb7 hm7
      rcases HRC.out with rfl | ⟨X, rfl, hrX, hXs⟩
      · have hrz := fun V => mRight_any zeroMat _ V (hasMat_zero V)
        rw [right_zero] at hrz
        have hrz2 : ∀ V, Calls Tryd.prog 12 #[.agg #[.string ⟨#[]⟩, .int .i64 0, .slice none 0 0]] V (BoolB false V) := hrz
        have HRZ := Lib.hid hrz2
        have hp2 : ∀ V (h : MaxC V), Calls Tryd.prog 20 #[.string S] V fun e w' => e = .returned (.tuple #[.agg #[.string ⟨#[]⟩, .int .i64 0, .slice none 0 0], .int .i64 6]) ∧ Below V.heap.size V w' := HPS.out
        have HP2 := Lib.hid hp2
        clear hrz hrz2 hp2 HPS HRC
        go_wp2_with (first
          | (go_at_call 20; (with_reducible refine (HP2.out _ HM7.out).mono ?_); rintro e w8 ⟨rfl, hb8⟩; have hm8 := (HM7.out.call hb8).call ((Below.refl _ _).alloc (Nat.le_refl _) (.cells #[.string ⟨#[]⟩, .int .i64 0, .slice none 0 0] 25)))
          | (go_at_call 16; (with_reducible refine (alive_any _ hm8).mono ?_); rintro e w9 ⟨rfl, hb9⟩; obtain ⟨z0, z1, z2⟩ := ((Blk.new w8 25 #[.string ⟨#[]⟩, .int .i64 0, .slice none 0 0]).call hb9).cells3)
          | (go_at_call 12; (with_reducible refine (HRZ.out _).mono ?_); rintro e w10 ⟨rfl, hb10⟩))
        go_ret
        exact ⟨rfl, bthen (bthen HB7.out (bthen hb8 (((Below.refl _ _).alloc (Nat.le_refl _) _).trans (hb9.mono (by simp))))) hb10⟩
      · have e1 : textV X = S := by simp [textV, hrX, hXs]
        have e2 : textE X = 0 := by simp [textE, hrX]
        have htx := fun v V (h : HasMat V v X) => mText_any v X V h
        unfold TextPost at htx
        rw [e1, e2] at htx
        have hrz := fun v V (h : HasMat V v X) => mRight_any v X V h
        rw [hrX] at hrz
        have HRZ := Lib.hid hrz
        have HTX := Lib.hid htx
        have hp2 : ∀ V (h : MaxC V), Calls Tryd.prog 20 #[.string S] V fun e w' => (∃ a c, e = .returned (.tuple #[.agg #[.string X.name, .int .i64 X.how, .slice a X.words.length c], .int .i64 0]) ∧ HasStrs w' a c X.words) ∧ Below V.heap.size V w' := HPS.out
        have HP2 := Lib.hid hp2
        have hwf := how_wf hrX
        have hsz := (right_words hrX).2.2.2
        have hnl : X.name.size ≤ maxLen := by unfold maxLen; omega
        have hss : (S.toList == S.toList) = true := by simp
        clear hrz htx hp2 HPS HRC hrX hXs e1 e2 hsz
        go_wp2_with (first
          | (go_at_call 20; (with_reducible refine (HP2.out _ HM7.out).mono ?_); rintro e w8 ⟨⟨a8, c8, rfl, hS8⟩, hb8⟩; have hba := (Below.refl _ w8).alloc (Nat.le_refl _) (.cells #[.string X.name, .int .i64 X.how, .slice a8 X.words.length c8] 25); have hm8 := (HM7.out.call hb8).call hba; have hSa := hS8.call hba)
          | (go_at_call 19; (with_reducible refine (HTX.out _ _ ?_).mono ?_); (first | exact ⟨a8, c8, rfl, hSa, hnl, hwf⟩); rintro e w9 ⟨rfl, hb9⟩; have hm9 := hm8.call hb9; have hk9 := (Blk.new w8 25 #[.string X.name, .int .i64 X.how, .slice a8 X.words.length c8]).call hb9; obtain ⟨z0, z1, z2⟩ := hk9.cells3)
          | (go_at_call 16; (with_reducible refine (alive_any _ hm9).mono ?_); rintro e w10 ⟨rfl, hb10⟩; obtain ⟨z0', z1', z2'⟩ := (hk9.call hb10).cells3)
          | (go_at_call 12; (with_reducible refine (HRZ.out _ _ ?_).mono ?_); (first | exact ⟨a8, c8, rfl, hSa.call (bthen hb9 hb10), hnl, hwf⟩); rintro e w11 ⟨rfl, hb11⟩))
        go_ret
        exact ⟨rfl, bthen (bthen (bthen HB7.out (bthen hb8 (hba.trans (hb9.mono (by simp))))) hb10) hb11⟩
end Go.Proofs.YtjkmnanadeffnaaDoor
