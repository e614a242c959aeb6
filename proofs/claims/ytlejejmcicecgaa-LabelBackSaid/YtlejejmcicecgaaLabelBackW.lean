/- LabelBack: for every two rows of labels and every text: what is written is read; what any text is read as, written, is the text; sets of one text are the same. -/
import Derived.Test.YtlejejmcicecgaaLabPP
import Derived.Test.YtlejejmcicecgaaLabH
namespace Go.Proofs.Ytlejejmcicecgaa
open Go.RowKit

theorem textS_size {L : List Lab} (h : rightC L = true) : (textS L).size ≤ 1000000 := by
  have h1 := bodyT_le L h L.length
  rw [List.take_length] at h1
  simp only [textS, textL, ByteArray.size, List.size_toArray, List.length_cons, List.length_append, List.length_nil]
  omega
theorem parse_text {L : List Lab} (h : rightC L = true) : parseP (textS L).data.toList = (L, 0) := by
  rw [parseP, show (textS L).data.toList = textL L from rfl, parseL_text h]
theorem text_inj {L M : List Lab} (h : rightC L = true) (h' : rightC M = true) : ((textS L).toList == (textS M).toList) = decide (L = M) := by
  rw [Bool.eq_iff_iff, decide_eq_true_iff, beq_iff_eq, ByteArray.toList_eq, ByteArray.toList_eq]
  constructor
  · intro e
    have e1 := parseL_text h
    have e2 := parseL_text h'
    rw [show textL L = textL M from e, e2] at e1
    exact (Option.some.inj e1).symm
  · intro e; rw [e]
theorem parse_cases (s : ByteArray) : parseP s.data.toList = ([], 6) ∨ ∃ X, parseP s.data.toList = (X, 0) ∧ rightC X = true ∧ textS X = s := by
  unfold parseP
  cases h : parseL s.data.toList with
  | none => exact .inl rfl
  | some X =>
    obtain ⟨h1, h2⟩ := parseL_sound h
    exact .inr ⟨X, rfl, h1, bytes_ext h2⟩

set_option maxHeartbeats 6400000 in
set_option maxRecDepth 100000 in
theorem labelBack_walk (a0 : Option Addr) (len0 cap0 : Nat) (ls0 : List Lab) (w : World) (w0 : ls0.length = len0 ∧ HasLabs w a0 cap0 ls0) (a1 : Option Addr) (len1 cap1 : Nat) (ls1 : List Lab) (w1 : ls1.length = len1 ∧ HasLabs w a1 cap1 ls1)
    (a2 : ByteArray) (w2 : a2.size ≤ maxLen) (hM : MaxC w) :
    Calls Try.prog 6 #[.slice a0 len0 cap0, .slice a1 len1 cap1, .string a2] w fun e w' => e = .returned (.bool true) ∧ Below w.heap.size w w' := by
  obtain ⟨rfl, h0⟩ := w0
  obtain ⟨rfl, h1⟩ := w1
  unfold maxLen at w2
  have HM := Lib.hid hM
  clear hM
  go_enter Try.func6, Try.ntmps6
  go_upto_region 1 with fail
  go_cut [0, 1, 2] (fun l m s wx => ∃ p q p' q' s1, l = .slice p (fewL ls0).length q ∧ m = .slice p' (fewL ls1).length q' ∧ s = .string s1 ∧ s1.size ≤ 1500 ∧ HasLabs wx p q (fewL ls0) ∧ HasLabs wx p' q' (fewL ls1) ∧ Below w.heap.size w wx)
  case first =>
    have HA := Lib.hid h0
    have HB := Lib.hid h1
    clear h0 h1 HM
    go_region_with (go_at_call 10; first
      | ((with_reducible refine (few_any a0 cap0 ls0 _ (HA.out.call (bthen (Below.refl _ _).drew hbg))).mono ?_); rintro e wa ⟨p, q, rfl, hL, hbf⟩)
      | ((with_reducible refine (few_any a1 cap1 ls1 _ (HB.out.call (bthen (Below.refl _ _).drew hbf))).mono ?_); rintro e wa ⟨p', q', rfl, hO, hbg⟩)
      | ((with_reducible refine (few_any a0 cap0 ls0 _ (HA.out.call (Below.refl _ _).drew)).mono ?_); rintro e wa ⟨p, q, rfl, hL, hbf⟩)
      | ((with_reducible refine (few_any a1 cap1 ls1 _ (HB.out.call (Below.refl _ _).drew)).mono ?_); rintro e wa ⟨p', q', rfl, hO, hbg⟩))
    all_goals
      go_wp2_with fail
      go_meet
      first
      | exact ⟨_, _, _, _, _, rfl, rfl, rfl, (by simp; omega), hL.call hbg, hO, bthen (bthen (Below.refl _ _).drew hbf) hbg⟩
      | exact ⟨_, _, _, _, _, rfl, rfl, rfl, (by simp; omega), hL, hO.call hbf, bthen (bthen (Below.refl _ _).drew hbg) hbf⟩
  case rest =>
    obtain ⟨p, q, p', q', s, rfl, rfl, rfl, hs, hL0, hO0, hB0⟩ := hcut
    clear h0 h1 w2
    generalize fewL ls0 = L at *
    generalize fewL ls1 = O at *
    have ht1 := fun V (h : HasLabs V p q L) => text_any p q L V h
    have ht2 := fun V (h : HasLabs V p' q' O) => text_any p' q' O V h
    have hps := fun V (h : MaxC V) => parse_any s V h (by omega)
    -- what is read of the text, and written again
    have hfin : ∃ R : List Lab × Int, parseP s.data.toList = R ∧ (R = ([], 6) ∨ ∃ X, R = (X, 0) ∧ rightC X = true ∧ textS X = s) := ⟨_, rfl, parse_cases s⟩
    obtain ⟨R, hR, hRc⟩ := hfin
    rw [hR] at hps
    have HPS := Lib.hid hps
    clear hR hps
    have HLE := fun V (hV : Below w.heap.size w V) => HM.out.call (hV.mono (Nat.le_refl _))
    have HMC := Lib.hid HLE
    clear HLE HM
    cases hrL : rightC L with
    | false =>
      have e1 : textP L = (⟨#[]⟩, 1) := by rw [textP, if_neg (by rw [hrL]; simp)]
      rw [e1] at ht1
      have HT1 := Lib.hid ht1
      generalize hP2 : textP O = P2 at *
      have HT2 := Lib.hid ht2
      clear ht1 ht2 e1 hrL hP2
      rcases hRc with rfl | ⟨X, rfl, hrX, hXs⟩
      · skip
        go_wp2_with (first
          | (go_at_call 13; first | ((with_reducible refine (HT2.out _ hO1).mono ?_); rintro e w2 ⟨rfl, hb2⟩; have hL2 := hL1.call hb2; have hO2 := hO1.call hb2; have hB2 := bthen hB1 hb2) | ((with_reducible refine (HT1.out _ hL0).mono ?_); rintro e w1 ⟨rfl, hb1⟩; have hL1 := hL0.call hb1; have hO1 := hO0.call hb1; have hB1 := bthen hB0 hb1))
          | (go_at_call 21; ((with_reducible refine (HPS.out _ (HMC.out _ hB2)).mono ?_); rintro e w6 ⟨x6, y6, rfl, hX6, hb6⟩; have hB6 := bthen hB2 hb6))
          | (go_at_call 19; (with_reducible refine (alive_any _).mono ?_); rintro e w8 ⟨rfl, hb8⟩; have hB8 := bthen hB6 hb8))
        go_ret
        exact ⟨rfl, hB8⟩
      · have e3 : textP X = (s, 0) := by rw [textP, if_pos hrX, hXs]
        have ht3 := fun a c V (h : HasLabs V a c X) => text_any a c X V h
        rw [e3] at ht3
        have HT3 := Lib.hid ht3
        have hrx := fun a c V (h : HasLabs V a c X) => right_any a c X V h
        rw [hrX] at hrx
        have HRX := Lib.hid hrx
        have hss : (s.toList == s.toList) = true := by simp
        clear ht3 e3 hrx hrX hXs
        go_wp2_with (first
          | (go_at_call 13; first | ((with_reducible refine (HT3.out _ _ _ hX6).mono ?_); rintro e w7 ⟨rfl, hb7⟩; have hX7 := hX6.call hb7; have hB7 := bthen hB6 hb7) | ((with_reducible refine (HT2.out _ hO1).mono ?_); rintro e w2 ⟨rfl, hb2⟩; have hL2 := hL1.call hb2; have hO2 := hO1.call hb2; have hB2 := bthen hB1 hb2) | ((with_reducible refine (HT1.out _ hL0).mono ?_); rintro e w1 ⟨rfl, hb1⟩; have hL1 := hL0.call hb1; have hO1 := hO0.call hb1; have hB1 := bthen hB0 hb1))
          | (go_at_call 21; ((with_reducible refine (HPS.out _ (HMC.out _ hB2)).mono ?_); rintro e w6 ⟨x6, y6, rfl, hX6, hb6⟩; have hB6 := bthen hB2 hb6))
          | (go_at_call 19; (with_reducible refine (alive_any _).mono ?_); rintro e w8 ⟨rfl, hb8⟩; have hB8 := bthen hB7 hb8)
          | (go_at_call 14; (with_reducible refine (HRX.out _ _ _ (hX7.call hb8)).mono ?_); rintro e w9 ⟨rfl, hb9⟩; have hB9 := bthen hB8 hb9))
        go_ret
        exact ⟨rfl, hB9⟩
    | true =>
      have e1 : textP L = (textS L, 0) := by rw [textP, if_pos hrL]
      rw [e1] at ht1
      have hpl := fun V (h : MaxC V) => parse_any (textS L) V h (textS_size hrL)
      rw [parse_text hrL] at hpl
      have hsl := fun x y V (h : HasLabs V x y L) (h' : HasLabs V p q L) => rSame_any x p y q L L V h h'
      rw [decide_eq_true rfl] at hsl
      have hso := fun V (h : HasLabs V p q L) (h' : HasLabs V p' q' O) => rSame_any p p' q q' L O V h h'
      have HT1 := Lib.hid ht1
      have HPL := Lib.hid hpl
      have HSL := Lib.hid hsl
      clear ht1 hpl hsl e1
      cases hrO : rightC O with
      | false =>
        have e2 : textP O = (⟨#[]⟩, 1) := by rw [textP, if_neg (by rw [hrO]; simp)]
        rw [e2] at ht2
        have HT2 := Lib.hid ht2
        clear ht2 e2 hrO hrL hso
        generalize textS L = TL at *
        rcases hRc with rfl | ⟨X, rfl, hrX, hXs⟩
        · skip
          go_wp2_with (first
            | (go_at_call 13; first | ((with_reducible refine (HT2.out _ hO1).mono ?_); rintro e w2 ⟨rfl, hb2⟩; have hL2 := hL1.call hb2; have hO2 := hO1.call hb2; have hB2 := bthen hB1 hb2) | ((with_reducible refine (HT1.out _ hL0).mono ?_); rintro e w1 ⟨rfl, hb1⟩; have hL1 := hL0.call hb1; have hO1 := hO0.call hb1; have hB1 := bthen hB0 hb1))
            | (go_at_call 21; first | ((with_reducible refine (HPS.out _ (HMC.out _ hB4)).mono ?_); rintro e w6 ⟨x6, y6, rfl, hX6, hb6⟩; have hB6 := bthen hB4 hb6) | ((with_reducible refine (HPL.out _ (HMC.out _ hB2)).mono ?_); rintro e w3 ⟨x3, y3, rfl, hX3, hb3⟩; have hL3 := hL2.call hb3; have hO3 := hO2.call hb3; have hB3 := bthen hB2 hb3))
            | (go_at_call 16; ((with_reducible refine (HSL.out _ _ _ hX3 hL3).mono ?_); rintro e w4 ⟨rfl, hb4⟩; have hL4 := hL3.call hb4; have hO4 := hO3.call hb4; have hB4 := bthen hB3 hb4))
            | (go_at_call 19; (with_reducible refine (alive_any _).mono ?_); rintro e w8 ⟨rfl, hb8⟩; have hB8 := bthen hB6 hb8))
          go_ret
          exact ⟨rfl, hB8⟩
        · have e3 : textP X = (s, 0) := by rw [textP, if_pos hrX, hXs]
          have ht3 := fun a c V (h : HasLabs V a c X) => text_any a c X V h
          rw [e3] at ht3
          have HT3 := Lib.hid ht3
          have hrx := fun a c V (h : HasLabs V a c X) => right_any a c X V h
          rw [hrX] at hrx
          have HRX := Lib.hid hrx
          have hss : (s.toList == s.toList) = true := by simp
          clear ht3 e3 hrx hrX hXs
          go_wp2_with (first
            | (go_at_call 13; first | ((with_reducible refine (HT3.out _ _ _ hX6).mono ?_); rintro e w7 ⟨rfl, hb7⟩; have hX7 := hX6.call hb7; have hB7 := bthen hB6 hb7) | ((with_reducible refine (HT2.out _ hO1).mono ?_); rintro e w2 ⟨rfl, hb2⟩; have hL2 := hL1.call hb2; have hO2 := hO1.call hb2; have hB2 := bthen hB1 hb2) | ((with_reducible refine (HT1.out _ hL0).mono ?_); rintro e w1 ⟨rfl, hb1⟩; have hL1 := hL0.call hb1; have hO1 := hO0.call hb1; have hB1 := bthen hB0 hb1))
            | (go_at_call 21; first | ((with_reducible refine (HPS.out _ (HMC.out _ hB4)).mono ?_); rintro e w6 ⟨x6, y6, rfl, hX6, hb6⟩; have hB6 := bthen hB4 hb6) | ((with_reducible refine (HPL.out _ (HMC.out _ hB2)).mono ?_); rintro e w3 ⟨x3, y3, rfl, hX3, hb3⟩; have hL3 := hL2.call hb3; have hO3 := hO2.call hb3; have hB3 := bthen hB2 hb3))
            | (go_at_call 16; ((with_reducible refine (HSL.out _ _ _ hX3 hL3).mono ?_); rintro e w4 ⟨rfl, hb4⟩; have hL4 := hL3.call hb4; have hO4 := hO3.call hb4; have hB4 := bthen hB3 hb4))
            | (go_at_call 19; (with_reducible refine (alive_any _).mono ?_); rintro e w8 ⟨rfl, hb8⟩; have hB8 := bthen hB7 hb8)
            | (go_at_call 14; (with_reducible refine (HRX.out _ _ _ (hX7.call hb8)).mono ?_); rintro e w9 ⟨rfl, hb9⟩; have hB9 := bthen hB8 hb9))
          go_ret
          exact ⟨rfl, hB9⟩
      | true =>
        have e2 : textP O = (textS O, 0) := by rw [textP, if_pos hrO]
        rw [e2] at ht2
        have hij := text_inj hrL hrO
        have HT2 := Lib.hid ht2
        clear ht2 e2
        cases hd : decide (L = O) with
        | true =>
          rw [hd] at hij hso
          have HSO := Lib.hid hso
          clear hso hd hrO hrL
          generalize textS L = TL at *
          generalize textS O = TO at *
          rcases hRc with rfl | ⟨X, rfl, hrX, hXs⟩
          · skip
            go_wp2_with (first
              | (go_at_call 13; first | ((with_reducible refine (HT2.out _ hO1).mono ?_); rintro e w2 ⟨rfl, hb2⟩; have hL2 := hL1.call hb2; have hO2 := hO1.call hb2; have hB2 := bthen hB1 hb2) | ((with_reducible refine (HT1.out _ hL0).mono ?_); rintro e w1 ⟨rfl, hb1⟩; have hL1 := hL0.call hb1; have hO1 := hO0.call hb1; have hB1 := bthen hB0 hb1))
              | (go_at_call 21; first | ((with_reducible refine (HPS.out _ (HMC.out _ hB5)).mono ?_); rintro e w6 ⟨x6, y6, rfl, hX6, hb6⟩; have hB6 := bthen hB5 hb6) | ((with_reducible refine (HPL.out _ (HMC.out _ hB2)).mono ?_); rintro e w3 ⟨x3, y3, rfl, hX3, hb3⟩; have hL3 := hL2.call hb3; have hO3 := hO2.call hb3; have hB3 := bthen hB2 hb3))
              | (go_at_call 16; first | ((with_reducible refine (HSO.out _ hL4 hO4).mono ?_); rintro e w5 ⟨rfl, hb5⟩; have hB5 := bthen hB4 hb5) | ((with_reducible refine (HSL.out _ _ _ hX3 hL3).mono ?_); rintro e w4 ⟨rfl, hb4⟩; have hL4 := hL3.call hb4; have hO4 := hO3.call hb4; have hB4 := bthen hB3 hb4))
              | (go_at_call 19; (with_reducible refine (alive_any _).mono ?_); rintro e w8 ⟨rfl, hb8⟩; have hB8 := bthen hB6 hb8))
            go_ret
            exact ⟨rfl, hB8⟩
          · have e3 : textP X = (s, 0) := by rw [textP, if_pos hrX, hXs]
            have ht3 := fun a c V (h : HasLabs V a c X) => text_any a c X V h
            rw [e3] at ht3
            have HT3 := Lib.hid ht3
            have hrx := fun a c V (h : HasLabs V a c X) => right_any a c X V h
            rw [hrX] at hrx
            have HRX := Lib.hid hrx
            have hss : (s.toList == s.toList) = true := by simp
            clear ht3 e3 hrx hrX hXs
            go_wp2_with (first
              | (go_at_call 13; first | ((with_reducible refine (HT3.out _ _ _ hX6).mono ?_); rintro e w7 ⟨rfl, hb7⟩; have hX7 := hX6.call hb7; have hB7 := bthen hB6 hb7) | ((with_reducible refine (HT2.out _ hO1).mono ?_); rintro e w2 ⟨rfl, hb2⟩; have hL2 := hL1.call hb2; have hO2 := hO1.call hb2; have hB2 := bthen hB1 hb2) | ((with_reducible refine (HT1.out _ hL0).mono ?_); rintro e w1 ⟨rfl, hb1⟩; have hL1 := hL0.call hb1; have hO1 := hO0.call hb1; have hB1 := bthen hB0 hb1))
              | (go_at_call 21; first | ((with_reducible refine (HPS.out _ (HMC.out _ hB5)).mono ?_); rintro e w6 ⟨x6, y6, rfl, hX6, hb6⟩; have hB6 := bthen hB5 hb6) | ((with_reducible refine (HPL.out _ (HMC.out _ hB2)).mono ?_); rintro e w3 ⟨x3, y3, rfl, hX3, hb3⟩; have hL3 := hL2.call hb3; have hO3 := hO2.call hb3; have hB3 := bthen hB2 hb3))
              | (go_at_call 16; first | ((with_reducible refine (HSO.out _ hL4 hO4).mono ?_); rintro e w5 ⟨rfl, hb5⟩; have hB5 := bthen hB4 hb5) | ((with_reducible refine (HSL.out _ _ _ hX3 hL3).mono ?_); rintro e w4 ⟨rfl, hb4⟩; have hL4 := hL3.call hb4; have hO4 := hO3.call hb4; have hB4 := bthen hB3 hb4))
              | (go_at_call 19; (with_reducible refine (alive_any _).mono ?_); rintro e w8 ⟨rfl, hb8⟩; have hB8 := bthen hB7 hb8)
              | (go_at_call 14; (with_reducible refine (HRX.out _ _ _ (hX7.call hb8)).mono ?_); rintro e w9 ⟨rfl, hb9⟩; have hB9 := bthen hB8 hb9))
            go_ret
            exact ⟨rfl, hB9⟩
        | false =>
          rw [hd] at hij hso
          have HSO := Lib.hid hso
          clear hso hd hrO hrL
          generalize textS L = TL at *
          generalize textS O = TO at *
          rcases hRc with rfl | ⟨X, rfl, hrX, hXs⟩
          · skip
            go_wp2_with (first
              | (go_at_call 13; first | ((with_reducible refine (HT2.out _ hO1).mono ?_); rintro e w2 ⟨rfl, hb2⟩; have hL2 := hL1.call hb2; have hO2 := hO1.call hb2; have hB2 := bthen hB1 hb2) | ((with_reducible refine (HT1.out _ hL0).mono ?_); rintro e w1 ⟨rfl, hb1⟩; have hL1 := hL0.call hb1; have hO1 := hO0.call hb1; have hB1 := bthen hB0 hb1))
              | (go_at_call 21; first | ((with_reducible refine (HPS.out _ (HMC.out _ hB5)).mono ?_); rintro e w6 ⟨x6, y6, rfl, hX6, hb6⟩; have hB6 := bthen hB5 hb6) | ((with_reducible refine (HPL.out _ (HMC.out _ hB2)).mono ?_); rintro e w3 ⟨x3, y3, rfl, hX3, hb3⟩; have hL3 := hL2.call hb3; have hO3 := hO2.call hb3; have hB3 := bthen hB2 hb3))
              | (go_at_call 16; first | ((with_reducible refine (HSO.out _ hL4 hO4).mono ?_); rintro e w5 ⟨rfl, hb5⟩; have hB5 := bthen hB4 hb5) | ((with_reducible refine (HSL.out _ _ _ hX3 hL3).mono ?_); rintro e w4 ⟨rfl, hb4⟩; have hL4 := hL3.call hb4; have hO4 := hO3.call hb4; have hB4 := bthen hB3 hb4))
              | (go_at_call 19; (with_reducible refine (alive_any _).mono ?_); rintro e w8 ⟨rfl, hb8⟩; have hB8 := bthen hB6 hb8))
            go_ret
            exact ⟨rfl, hB8⟩
          · have e3 : textP X = (s, 0) := by rw [textP, if_pos hrX, hXs]
            have ht3 := fun a c V (h : HasLabs V a c X) => text_any a c X V h
            rw [e3] at ht3
            have HT3 := Lib.hid ht3
            have hrx := fun a c V (h : HasLabs V a c X) => right_any a c X V h
            rw [hrX] at hrx
            have HRX := Lib.hid hrx
            have hss : (s.toList == s.toList) = true := by simp
            clear ht3 e3 hrx hrX hXs
            go_wp2_with (first
              | (go_at_call 13; first | ((with_reducible refine (HT3.out _ _ _ hX6).mono ?_); rintro e w7 ⟨rfl, hb7⟩; have hX7 := hX6.call hb7; have hB7 := bthen hB6 hb7) | ((with_reducible refine (HT2.out _ hO1).mono ?_); rintro e w2 ⟨rfl, hb2⟩; have hL2 := hL1.call hb2; have hO2 := hO1.call hb2; have hB2 := bthen hB1 hb2) | ((with_reducible refine (HT1.out _ hL0).mono ?_); rintro e w1 ⟨rfl, hb1⟩; have hL1 := hL0.call hb1; have hO1 := hO0.call hb1; have hB1 := bthen hB0 hb1))
              | (go_at_call 21; first | ((with_reducible refine (HPS.out _ (HMC.out _ hB5)).mono ?_); rintro e w6 ⟨x6, y6, rfl, hX6, hb6⟩; have hB6 := bthen hB5 hb6) | ((with_reducible refine (HPL.out _ (HMC.out _ hB2)).mono ?_); rintro e w3 ⟨x3, y3, rfl, hX3, hb3⟩; have hL3 := hL2.call hb3; have hO3 := hO2.call hb3; have hB3 := bthen hB2 hb3))
              | (go_at_call 16; first | ((with_reducible refine (HSO.out _ hL4 hO4).mono ?_); rintro e w5 ⟨rfl, hb5⟩; have hB5 := bthen hB4 hb5) | ((with_reducible refine (HSL.out _ _ _ hX3 hL3).mono ?_); rintro e w4 ⟨rfl, hb4⟩; have hL4 := hL3.call hb4; have hO4 := hO3.call hb4; have hB4 := bthen hB3 hb4))
              | (go_at_call 19; (with_reducible refine (alive_any _).mono ?_); rintro e w8 ⟨rfl, hb8⟩; have hB8 := bthen hB7 hb8)
              | (go_at_call 14; (with_reducible refine (HRX.out _ _ _ (hX7.call hb8)).mono ?_); rintro e w9 ⟨rfl, hb9⟩; have hB9 := bthen hB8 hb9))
            go_ret
            exact ⟨rfl, hB9⟩
end Go.Proofs.Ytlejejmcicecgaa
