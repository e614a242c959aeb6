/- LabelSets: for every row of labels and every name: which sets may be, the set of any labels, any name's value, and any set's text, is as the document's own program says, or refused. -/
import Derived.Test.YtlejejmcicecgaaLabJ
namespace Go.Proofs.Ytlejejmcicecgaa
open Go.RowKit

set_option maxHeartbeats 3200000 in
set_option maxRecDepth 100000 in
theorem labelSets_walk (a0 : Option Addr) (len0 cap0 : Nat) (ls0 : List Lab) (w : World) (w0 : ls0.length = len0 ∧ HasLabs w a0 cap0 ls0) (a1 : ByteArray) (_w1 : a1.size ≤ maxLen) :
    Calls Try.prog 3 #[.slice a0 len0 cap0, .string a1] w fun e w' => e = .returned (.bool true) ∧ Below w.heap.size w w' := by
  obtain ⟨rfl, h0⟩ := w0
  have HF0 := Lib.hid (fun V (hV : HasLabs V a0 cap0 ls0) => few_any a0 cap0 ls0 V hV)
  have H0 := Lib.hid h0
  clear h0
  go_enter Try.func3, Try.ntmps3
  go_upto_region 2 with (go_at_call 10; (with_reducible refine (HF0.out _ H0.out).mono ?_); rintro e wa ⟨p, q, rfl, hL0, hbf⟩)
  have HB := Lib.hid hbf
  clear hbf
  generalize fewL ls0 = L at *
  have hne := fun V (h : HasLabs V p q L) => new_any p q L V h
  have hrn := fun V (h : HasLabs V p q L) => rNew_any p q L V h
  obtain ⟨R, hR⟩ : ∃ R, newP L = R := ⟨_, rfl⟩
  rw [hR] at hne hrn
  have hsr := fun a b c d V (h : HasLabs V a b R.1) (h' : HasLabs V c d R.1) => rSame_any a c b d R.1 R.1 V h h'
  rw [decide_eq_true rfl] at hsr
  have hte := fun V (h : HasLabs V p q L) => text_any p q L V h
  have hri := fun V (h : HasLabs V p q L) => right_any p q L V h
  have hrr := fun V (h : HasLabs V p q L) => rRight_any p q L V h
  have hge := fun V (h : HasLabs V p q L) => get_any p q L a1 V h
  have hrg := fun V (h : HasLabs V p q L) => rGet_any p q L a1 V h
  generalize getL L a1 = G at *
  cases hr : rightC L with
  | false =>
    have e1 : textP L = (⟨#[]⟩, 1) := by rw [textP, if_neg (by rw [hr]; simp)]
    rw [e1] at hte
    rw [hr] at hri hrr
    have HNE := Lib.hid hne
    have HRN := Lib.hid hrn
    have HSR := Lib.hid hsr
    have HTE := Lib.hid hte
    have HRI := Lib.hid hri
    have HRR := Lib.hid hrr
    have HGE := Lib.hid hge
    have HRG := Lib.hid hrg
    clear hne hrn hsr hte hri hrr hge hrg e1 hr hR
    generalize R.2 = n at *
    generalize R.1 = K at *
    go_wp2_with (first
      | (go_at_call 11; (with_reducible refine (HNE.out _ hL0).mono ?_); rintro e w1 ⟨x1, y1, rfl, hK1, hb1⟩; have hL1 := hL0.call hb1)
      | (go_at_call 12; (with_reducible refine (HRN.out _ hL1).mono ?_); rintro e w2 ⟨x2, y2, rfl, hJ2, hb2⟩; have hL2 := hL1.call hb2; have hK2 := hK1.call hb2)
      | (go_at_call 13; (with_reducible refine (HTE.out _ hL2).mono ?_); rintro e w3 ⟨rfl, hb3⟩; have hL3 := hL2.call hb3; have hK3 := hK2.call hb3; have hJ3 := hJ2.call hb3)
      | (go_at_call 14; (with_reducible refine (HRI.out _ hL3).mono ?_); rintro e w4 ⟨rfl, hb4⟩; have hL4 := hL3.call hb4; have hK4 := hK3.call hb4; have hJ4 := hJ3.call hb4)
      | (go_at_call 16; (with_reducible refine (HSR.out _ _ _ _ _ hK5 hJ5).mono ?_); rintro e w6 ⟨rfl, hb6⟩; have hL6 := hL5.call hb6)
      | (go_at_call 17; (with_reducible refine (HGE.out _ hL6).mono ?_); rintro e w7 ⟨rfl, hb7⟩; have hL7 := hL6.call hb7)
      | (go_at_call 18; (with_reducible refine (HRG.out _ hL7).mono ?_); rintro e w8 ⟨rfl, hb8⟩; have hL8 := hL7.call hb8)
      | (go_at_call 19; (with_reducible refine (alive_any _).mono ?_); rintro e w9 ⟨rfl, hb9⟩; have hL9 := hL8.call hb9)
      | (go_at_call 15; first | ((with_reducible refine (HRR.out _ hL9).mono ?_); rintro e w10 ⟨rfl, hb10⟩) | ((with_reducible refine (HRR.out _ hL4).mono ?_); rintro e w5 ⟨rfl, hb5⟩; have hL5 := hL4.call hb5; have hK5 := hK4.call hb5; have hJ5 := hJ4.call hb5)))
    go_ret
    exact ⟨rfl, bthen (bthen (bthen (bthen (bthen (bthen (bthen (bthen (bthen (bthen HB.out hb1) hb2) hb3) hb4) hb5) hb6) hb7) hb8) hb9) hb10⟩
  | true =>
    have e1 : textP L = (textS L, 0) := by rw [textP, if_pos hr]
    have hrt := fun V (h : HasLabs V p q L) => rText_any p q L V h hr
    rw [e1] at hte
    rw [hr] at hri hrr
    generalize textS L = T at *
    have HNE := Lib.hid hne
    have HRN := Lib.hid hrn
    have HSR := Lib.hid hsr
    have HTE := Lib.hid hte
    have HRI := Lib.hid hri
    have HRR := Lib.hid hrr
    have HGE := Lib.hid hge
    have HRG := Lib.hid hrg
    have HRT := Lib.hid hrt
    clear hne hrn hsr hte hri hrr hge hrg hrt e1 hr hR
    generalize R.2 = n at *
    generalize R.1 = K at *
    go_wp2_with (first
      | (go_at_call 11; (with_reducible refine (HNE.out _ hL0).mono ?_); rintro e w1 ⟨x1, y1, rfl, hK1, hb1⟩; have hL1 := hL0.call hb1)
      | (go_at_call 12; (with_reducible refine (HRN.out _ hL1).mono ?_); rintro e w2 ⟨x2, y2, rfl, hJ2, hb2⟩; have hL2 := hL1.call hb2; have hK2 := hK1.call hb2)
      | (go_at_call 13; (with_reducible refine (HTE.out _ hL2).mono ?_); rintro e w3 ⟨rfl, hb3⟩; have hL3 := hL2.call hb3; have hK3 := hK2.call hb3; have hJ3 := hJ2.call hb3)
      | (go_at_call 14; (with_reducible refine (HRI.out _ hL3).mono ?_); rintro e w4 ⟨rfl, hb4⟩; have hL4 := hL3.call hb4; have hK4 := hK3.call hb4; have hJ4 := hJ3.call hb4)
      | (go_at_call 16; (with_reducible refine (HSR.out _ _ _ _ _ hK5 hJ5).mono ?_); rintro e w6 ⟨rfl, hb6⟩; have hL6 := hL5.call hb6)
      | (go_at_call 17; (with_reducible refine (HGE.out _ hL6).mono ?_); rintro e w7 ⟨rfl, hb7⟩; have hL7 := hL6.call hb7)
      | (go_at_call 18; (with_reducible refine (HRG.out _ hL7).mono ?_); rintro e w8 ⟨rfl, hb8⟩; have hL8 := hL7.call hb8)
      | (go_at_call 19; (with_reducible refine (alive_any _).mono ?_); rintro e w9 ⟨rfl, hb9⟩; have hL9 := hL8.call hb9)
      | (go_at_call 15; first | ((with_reducible refine (HRR.out _ hL9).mono ?_); rintro e w10 ⟨rfl, hb10⟩; have hL10 := hL9.call hb10) | ((with_reducible refine (HRR.out _ hL4).mono ?_); rintro e w5 ⟨rfl, hb5⟩; have hL5 := hL4.call hb5; have hK5 := hK4.call hb5; have hJ5 := hJ4.call hb5))
      | (go_at_call 20; (with_reducible refine (HRT.out _ hL10).mono ?_); rintro e w11 ⟨rfl, hb11⟩))
    go_ret
    exact ⟨rfl, bthen (bthen (bthen (bthen (bthen (bthen (bthen (bthen (bthen (bthen (bthen HB.out hb1) hb2) hb3) hb4) hb5) hb6) hb7) hb8) hb9) hb10) hb11⟩
end Go.Proofs.Ytlejejmcicecgaa
