/- LabelLays: for every two rows of labels and every row of names: any set laid over any other one, and what any has of any names, is as the document's own program says, or refused. -/
import Derived.Test.YtlejejmcicecgaaLabH
namespace Go.Proofs.Ytlejejmcicecgaa
open Go.RowKit

theorem lays_with {ls ms out : List Lab} (h : rightC ls = true) (h' : rightC ms = true) (hp : out.Perm (ms ++ restL ls ms)) (hs : WS out) :
    withP ls ms = if out.length ≤ 8 then (out, 0) else ([], 2) := by
  obtain ⟨hd, hl⟩ := over_dis h h'
  have hpp : out.Perm (restL ls ms ++ ms) := hp.trans List.perm_append_comm
  rw [withP, if_pos h, if_pos h', newP_dis hd hl, hpp.length_eq]
  split
  · rename_i h8
    obtain ⟨h1, h2⟩ := sort_right hpp hs hl h8
    rw [h2 (by rw [h1]; exact dis_right hd hl h8)]
  · rfl

set_option maxHeartbeats 3200000 in
set_option maxRecDepth 100000 in
theorem labelLays_walk (a0 : Option Addr) (len0 cap0 : Nat) (ls0 : List Lab) (w : World) (w0 : ls0.length = len0 ∧ HasLabs w a0 cap0 ls0) (a1 : Option Addr) (len1 cap1 : Nat) (ls1 : List Lab) (w1 : ls1.length = len1 ∧ HasLabs w a1 cap1 ls1)
    (a2 : Option Addr) (len2 cap2 : Nat) (ss2 : List ByteArray) (w2 : ss2.length = len2 ∧ HasStrs w a2 cap2 ss2) :
    Calls Try.prog 5 #[.slice a0 len0 cap0, .slice a1 len1 cap1, .slice a2 len2 cap2] w fun e w' => e = .returned (.bool true) ∧ Below w.heap.size w w' := by
  obtain ⟨rfl, h0⟩ := w0
  obtain ⟨rfl, h1⟩ := w1
  obtain ⟨rfl, h2⟩ := w2
  have HF0 := Lib.hid (fun V (hV : HasLabs V a0 cap0 ls0) => few_any a0 cap0 ls0 V hV)
  have HF1 := Lib.hid (fun V (hV : HasLabs V a1 cap1 ls1) => few_any a1 cap1 ls1 V hV)
  have HF2 := Lib.hid (fun V (hV : HasStrs V a2 cap2 ss2) => names_any a2 cap2 ss2 V hV)
  have H0 := Lib.hid h0
  have H1 := Lib.hid h1
  have H2 := Lib.hid h2
  have hlen := fewL_len ls0
  clear h0 h1 h2
  go_enter Try.func5, Try.ntmps5
  go_upto_region 2 with (first
    | (go_at_call 23; (with_reducible refine (HF2.out _ (H2.out.call (bthen hbf hbg))).mono ?_); rintro e wc ⟨p2, q2, rfl, hN, hbh⟩)
    | (go_at_call 10; first | ((with_reducible refine (HF1.out _ (H1.out.call hbf)).mono ?_); rintro e wb ⟨p', q', rfl, hO0, hbg⟩) | ((with_reducible refine (HF0.out _ H0.out).mono ?_); rintro e wa ⟨p, q, rfl, hL0, hbf⟩)))
  have hL1 := (hL0.call hbg).call hbh
  have hO1 := hO0.call hbh
  have hB := bthen (bthen hbf hbg) hbh
  have HB := Lib.hid hB
  clear hL0 hO0 hbf hbg hbh hB
  generalize fewL ls0 = L at *
  generalize fewL ls1 = O at *
  generalize namesL ss2 = N at *
  have hwi := fun V (h1 : HasLabs V p q L) (h2 : HasLabs V p' q' O) => with_any p p' q q' L O V h1 h2
  have hkp := fun V (h1 : HasLabs V p q L) (h2 : HasStrs V p2 q2 N) => keep_any p p2 q q2 L N V h1 h2
  have hrl := fun V (h1 : HasLabs V p q L) => rRight_any p q L V h1
  have hro := fun V (h1 : HasLabs V p' q' O) => rRight_any p' q' O V h1
  cases hrL : rightC L with
  | false =>
    have e1 : withP L O = ([], 1) := by rw [withP, if_neg (by rw [hrL]; simp)]
    have e2 : keepP L N = ([], 1) := by rw [keepP, if_neg (by rw [hrL]; simp)]
    rw [e1] at hwi
    rw [e2] at hkp
    rw [hrL] at hrl
    have HWI := Lib.hid hwi
    have HKP := Lib.hid hkp
    have HRL := Lib.hid hrl
    clear hwi hkp hrl hro e1 e2 hrL
    go_wp2_with (first
      | (go_at_call 24; (with_reducible refine (HWI.out _ hL1 hO1).mono ?_); rintro e w3 ⟨x, y, rfl, hX, hb3⟩; have hL3 := hL1.call hb3; have hN3 := hN.call hb3)
      | (go_at_call 25; (with_reducible refine (HKP.out _ hL3 hN3).mono ?_); rintro e w4 ⟨x4, y4, rfl, hK4, hb4⟩; have hL4 := hL3.call hb4)
      | (go_at_call 19; (with_reducible refine (alive_any _).mono ?_); rintro e w5 ⟨rfl, hb5⟩; have hL5 := hL4.call hb5)
      | (go_at_call 15; (with_reducible refine (HRL.out _ hL5).mono ?_); rintro e w6 ⟨rfl, hb6⟩))
    go_ret
    exact ⟨rfl, bthen (bthen (bthen (bthen HB.out hb3) hb4) hb5) hb6⟩
  | true =>
    rw [keepP_right hrL] at hkp
    rw [hrL] at hrl
    have hrk := fun V (h1 : HasLabs V p q L) (h2 : HasStrs V p2 q2 N) => rKeep_any p p2 q q2 L N V h1 h2 (by omega)
    obtain ⟨K, hK⟩ : ∃ K, keepL L N = K := ⟨_, rfl⟩
    rw [hK] at hkp hrk
    have hsk := fun a b c d V (h1 : HasLabs V a b K) (h2 : HasLabs V c d K) => rSame_any a c b d K K V h1 h2
    rw [decide_eq_true rfl] at hsk
    have HKP := Lib.hid hkp
    have HRL := Lib.hid hrl
    have HRK := Lib.hid hrk
    have HSK := Lib.hid hsk
    clear hkp hrl hrk hsk hK
    cases hrO : rightC O with
    | false =>
      have e1 : withP L O = ([], 1) := by rw [withP, if_pos hrL, if_neg (by rw [hrO]; simp)]
      rw [e1] at hwi
      rw [hrO] at hro
      have HWI := Lib.hid hwi
      have HRO := Lib.hid hro
      clear hwi hro e1 hrL hrO
      go_wp2_with (first
        | (go_at_call 24; (with_reducible refine (HWI.out _ hL1 hO1).mono ?_); rintro e w3 ⟨x, y, rfl, hX3, hb3⟩; have hL3 := hL1.call hb3; have hN3 := hN.call hb3; have hO3 := hO1.call hb3)
        | (go_at_call 25; (with_reducible refine (HKP.out _ hL3 hN3).mono ?_); rintro e w4 ⟨x4, y4, rfl, hK4, hb4⟩; have hL4 := hL3.call hb4; have hN4 := hN3.call hb4; have hO4 := hO3.call hb4)
        | (go_at_call 19; (with_reducible refine (alive_any _).mono ?_); rintro e w5 ⟨rfl, hb5⟩; have hL5 := hL4.call hb5; have hN5 := hN4.call hb5; have hO5 := hO4.call hb5; have hK5 := hK4.call hb5)
        | (go_at_call 15; first | ((with_reducible refine (HRO.out _ hO8).mono ?_); rintro e w9 ⟨rfl, hb9⟩) | ((with_reducible refine (HRL.out _ hL5).mono ?_); rintro e w6 ⟨rfl, hb6⟩; have hL6 := hL5.call hb6; have hN6 := hN5.call hb6; have hO6 := hO5.call hb6; have hK6 := hK5.call hb6))
        | (go_at_call 26; (with_reducible refine (HRK.out _ hL6 hN6).mono ?_); rintro e w7 ⟨x7, y7, rfl, hJ7, hb7⟩; have hO7 := hO6.call hb7; have hK7 := hK6.call hb7)
        | (go_at_call 16; (with_reducible refine (HSK.out _ _ _ _ _ hK7 hJ7).mono ?_); rintro e w8 ⟨rfl, hb8⟩; have hO8 := hO7.call hb8))
      go_ret
      exact ⟨rfl, bthen (bthen (bthen (bthen (bthen (bthen (bthen HB.out hb3) hb4) hb5) hb6) hb7) hb8) hb9⟩
    | true =>
      rw [hrO] at hro
      have hrw := fun V (h1 : HasLabs V p q L) (h2 : HasLabs V p' q' O) => rWith_any p p' q q' L O V h1 h2 hrL hrO
      have hlw := fun (out : List Lab) (h1 : out.Perm (O ++ restL L O)) (h2 : WS out) => lays_with hrL hrO h1 h2
      have HWI := Lib.hid hwi
      have HRO := Lib.hid hro
      have HRW := Lib.hid hrw
      have HLW := Lib.hid hlw
      have hpl : ∀ out : List Lab, out.Perm (O ++ restL L O) → out.length = (O ++ restL L O).length := fun out h => h.length_eq
      -- what is laid over, by definition: one list
      have hex : ∃ out : List Lab, out.Perm (O ++ restL L O) ∧ WS out := ⟨sortL (O ++ restL L O), sortL_perm _, sortL_ws _⟩
      obtain ⟨R, hRp, hRw⟩ := hex
      have hwp := hlw R hRp hRw
      obtain ⟨hdis, hlabs⟩ := over_dis hrL hrO
      have huniq : ∀ out : List Lab, out.Perm (O ++ restL L O) → WS out → out = R := fun out h1 h2 => by
        have hd1 : Dis R := hdis.perm (List.perm_append_comm.trans hRp.symm)
        exact asc_uniq R out (hd1.asc hRw) h2 (h1.trans hRp.symm)
      have HUN := Lib.hid huniq
      clear hwi hro hrw hlw hpl hdis hlabs huniq hRp hRw hrL hrO
      by_cases h8 : R.length ≤ 8
      · rw [if_pos h8] at hwp
        have hwi2 := HWI.out
        rw [hwp] at hwi2
        have HW2 := Lib.hid hwi2
        have hsr := fun a b c d V (h1 : HasLabs V a b R) (h2 : HasLabs V c d R) => rSame_any a c b d R R V h1 h2
        rw [decide_eq_true rfl] at hsr
        have HSR := Lib.hid hsr
        clear hwp hwi2 hsr
        go_wp2_with (first
          | (go_at_call 24; (with_reducible refine (HW2.out _ hL1 hO1).mono ?_); rintro e w3 ⟨x, y, rfl, hX3, hb3⟩; have hL3 := hL1.call hb3; have hN3 := hN.call hb3; have hO3 := hO1.call hb3)
          | (go_at_call 25; (with_reducible refine (HKP.out _ hL3 hN3).mono ?_); rintro e w4 ⟨x4, y4, rfl, hK4, hb4⟩; have hL4 := hL3.call hb4; have hN4 := hN3.call hb4; have hO4 := hO3.call hb4; have hX4 := hX3.call hb4)
          | (go_at_call 19; (with_reducible refine (alive_any _).mono ?_); rintro e w5 ⟨rfl, hb5⟩; have hL5 := hL4.call hb5; have hN5 := hN4.call hb5; have hO5 := hO4.call hb5; have hK5 := hK4.call hb5; have hX5 := hX4.call hb5)
          | (go_at_call 15; first | ((with_reducible refine (HRO.out _ hO8).mono ?_); rintro e w9 ⟨rfl, hb9⟩; have hL9 := hL8.call hb9; have hO9 := hO8.call hb9; have hX9 := hX8.call hb9) | ((with_reducible refine (HRL.out _ hL5).mono ?_); rintro e w6 ⟨rfl, hb6⟩; have hL6 := hL5.call hb6; have hN6 := hN5.call hb6; have hO6 := hO5.call hb6; have hK6 := hK5.call hb6; have hX6 := hX5.call hb6))
          | (go_at_call 26; (with_reducible refine (HRK.out _ hL6 hN6).mono ?_); rintro e w7 ⟨x7, y7, rfl, hJ7, hb7⟩; have hL7 := hL6.call hb7; have hO7 := hO6.call hb7; have hK7 := hK6.call hb7; have hX7 := hX6.call hb7)
          | (go_at_call 27; (with_reducible refine (HRW.out _ hL9 hO9).mono ?_); rintro e w10 ⟨out, x10, y10, rfl, hW10, hpo, hwo, hb10⟩; have hX10 := hX9.call hb10; (obtain rfl : out = R := HUN.out out hpo hwo); clear hpo hwo)
          | (go_at_call 16; first | ((with_reducible refine (HSR.out _ _ _ _ _ hX10 hW10).mono ?_); rintro e w11 ⟨rfl, hb11⟩) | ((with_reducible refine (HSK.out _ _ _ _ _ hK7 hJ7).mono ?_); rintro e w8 ⟨rfl, hb8⟩; have hL8 := hL7.call hb8; have hO8 := hO7.call hb8; have hX8 := hX7.call hb8)))
        go_ret
        exact ⟨rfl, bthen (bthen (bthen (bthen (bthen (bthen (bthen (bthen (bthen HB.out hb3) hb4) hb5) hb6) hb7) hb8) hb9) hb10) hb11⟩
      · rw [if_neg h8] at hwp
        have hwi2 := HWI.out
        rw [hwp] at hwi2
        have HW2 := Lib.hid hwi2
        clear hwp hwi2
        go_wp2_with (first
          | (go_at_call 24; (with_reducible refine (HW2.out _ hL1 hO1).mono ?_); rintro e w3 ⟨x, y, rfl, hX3, hb3⟩; have hL3 := hL1.call hb3; have hN3 := hN.call hb3; have hO3 := hO1.call hb3)
          | (go_at_call 25; (with_reducible refine (HKP.out _ hL3 hN3).mono ?_); rintro e w4 ⟨x4, y4, rfl, hK4, hb4⟩; have hL4 := hL3.call hb4; have hN4 := hN3.call hb4; have hO4 := hO3.call hb4)
          | (go_at_call 19; (with_reducible refine (alive_any _).mono ?_); rintro e w5 ⟨rfl, hb5⟩; have hL5 := hL4.call hb5; have hN5 := hN4.call hb5; have hO5 := hO4.call hb5; have hK5 := hK4.call hb5)
          | (go_at_call 15; first | ((with_reducible refine (HRO.out _ hO8).mono ?_); rintro e w9 ⟨rfl, hb9⟩; have hL9 := hL8.call hb9; have hO9 := hO8.call hb9) | ((with_reducible refine (HRL.out _ hL5).mono ?_); rintro e w6 ⟨rfl, hb6⟩; have hL6 := hL5.call hb6; have hN6 := hN5.call hb6; have hO6 := hO5.call hb6; have hK6 := hK5.call hb6))
          | (go_at_call 26; (with_reducible refine (HRK.out _ hL6 hN6).mono ?_); rintro e w7 ⟨x7, y7, rfl, hJ7, hb7⟩; have hL7 := hL6.call hb7; have hO7 := hO6.call hb7; have hK7 := hK6.call hb7)
          | (go_at_call 27; (with_reducible refine (HRW.out _ hL9 hO9).mono ?_); rintro e w10 ⟨out, x10, y10, rfl, hW10, hpo, hwo, hb10⟩; (obtain rfl : out = R := HUN.out out hpo hwo); clear hpo hwo)
          | (go_at_call 16; ((with_reducible refine (HSK.out _ _ _ _ _ hK7 hJ7).mono ?_); rintro e w8 ⟨rfl, hb8⟩; have hL8 := hL7.call hb8; have hO8 := hO7.call hb8)))
        go_ret
        exact ⟨rfl, bthen (bthen (bthen (bthen (bthen (bthen (bthen (bthen HB.out hb3) hb4) hb5) hb6) hb7) hb8) hb9) hb10⟩
end Go.Proofs.Ytlejejmcicecgaa
