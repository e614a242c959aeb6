/- LabelOver: for every two rows of labels and every name: in what is laid over, over's values stand, and l's of names that over has not; what is kept of all names is the set; of none nothing. -/
import Derived.Test.YtlejejmcicecgaaLabX
namespace Go.Proofs.Ytlejejmcicecgaa
open Go.RowKit

theorem str_empty (s : ByteArray) : s.toList.isEmpty = decide (s = ⟨#[]⟩) := by
  rw [ByteArray.toList_eq, Bool.eq_iff_iff, decide_eq_true_iff, List.isEmpty_iff]
  constructor
  · intro h
    apply bytes_ext
    rw [h]
  · intro h; rw [h]

set_option maxHeartbeats 3200000 in
set_option maxRecDepth 100000 in
theorem labelOver_walk (a0 : Option Addr) (len0 cap0 : Nat) (ls0 : List Lab) (w : World) (w0 : ls0.length = len0 ∧ HasLabs w a0 cap0 ls0) (a1 : Option Addr) (len1 cap1 : Nat) (ls1 : List Lab) (w1 : ls1.length = len1 ∧ HasLabs w a1 cap1 ls1)
    (a2 : ByteArray) (_w2 : a2.size ≤ maxLen) :
    Calls Try.prog 7 #[.slice a0 len0 cap0, .slice a1 len1 cap1, .string a2] w fun e w' => e = .returned (.bool true) ∧ Below w.heap.size w w' := by
  obtain ⟨rfl, h0⟩ := w0
  obtain ⟨rfl, h1⟩ := w1
  obtain ⟨i1, hi1, hy0, hy1, hy2⟩ := info_parts Try.infoS
  have HF0 := Lib.hid (fun V (hV : HasLabs V a0 cap0 ls0) => few_any a0 cap0 ls0 V hV)
  have HF1 := Lib.hid (fun V (hV : HasLabs V a1 cap1 ls1) => few_any a1 cap1 ls1 V hV)
  have H0 := Lib.hid h0
  have H1 := Lib.hid h1
  have hlen := fewL_len ls0
  clear h0 h1 _w2
  go_enter Try.func7, Try.ntmps7
  go_upto_region 2 with (go_at_call 10; first | ((with_reducible refine (HF1.out _ (H1.out.call hbf)).mono ?_); rintro e wb ⟨p', q', rfl, hO, hbg⟩) | ((with_reducible refine (HF0.out _ H0.out).mono ?_); rintro e wa ⟨p, q, rfl, hL, hbf⟩))
  have hL1 := hL.call hbg
  have hB := bthen hbf hbg
  have HB := Lib.hid hB
  clear hL hbf hbg hB
  generalize fewL ls0 = L at *
  generalize fewL ls1 = O at *
  have hwi := fun V (h1 : HasLabs V p q L) (h2 : HasLabs V p' q' O) => with_any p p' q q' L O V h1 h2
  rcases withP_cases L O with ⟨R, hP, hrL, hrO, hpm, hrR⟩ | hP | hP
  · have hgo := getL_over hrL hrO hpm a2
    rw [hP] at hwi
    have HWI := Lib.hid hwi
    have HPM := Lib.hid hpm
    clear hwi hP hpm
    have HGO := Lib.hid (fun V (hV : HasLabs V p' q' O) => get_any p' q' O a2 V hV)
    have HGL := Lib.hid (fun V (hV : HasLabs V p q L) => get_any p q L a2 V hV)
    have hrx := fun a c V (hV : HasLabs V a c R) => right_any a c R V hV
    rw [hrR] at hrx
    have hgx := fun a c V (hV : HasLabs V a c R) => get_any a c R a2 V hV
    have hem := str_empty (getL O a2)
    by_cases hE : getL O a2 = ⟨#[]⟩
    · rw [if_pos hE] at hgo
      rw [decide_eq_true hE] at hem
      clear hE
      obtain ⟨G, hG⟩ : ∃ G, getL O a2 = G := ⟨_, rfl⟩
      obtain ⟨Wv, hW⟩ : ∃ Wv, getL L a2 = Wv := ⟨_, rfl⟩
      rw [hG] at HGO hem
      rw [hW] at HGL hgo
      rw [hgo] at hgx
      have HRX0 := Lib.hid hrx
      have HGX0 := Lib.hid hgx
      clear hrx hgx hgo hG hW hrR
      go_upto_region 8 with (first
        | (go_at_call 24; refine (HWI.out _ hL1 hO).mono ?_; rintro e w2 ⟨x, y, rfl, hX2, hb2⟩; have hL2 := hL1.call hb2; have hO2 := hO.call hb2)
        | (go_at_call 17; first | ((with_reducible refine (HGL.out _ hL3).mono ?_); rintro e WA ⟨rfl, hb4⟩; have hL := hL3.call hb4; have hX := hX3.call hb4) | ((with_reducible refine (HGO.out _ hO2).mono ?_); rintro e w3 ⟨rfl, hb3⟩; have hL3 := hL2.call hb3; have hX3 := hX2.call hb3)))
      have hBA := bthen (bthen (bthen HB.out hb2) hb3) hb4
      have HBA := Lib.hid hBA
      have HRX := Lib.hid (HRX0.out x y)
      have HGX := Lib.hid (HGX0.out x y)
      clear hBA hb2 hb3 hb4 hL1 hL2 hO hO2 hX2 hL3 hX3
      have hkl : ∀ (a' : Option Addr) (c' : Nat) V, HasLabs V p q L → HasStrs V a' c' (L.map (·.1)) → Calls Try.prog 25 #[.slice p L.length q, .slice a' L.length c'] V (LabsE L 0 V) := fun a' c' V hV hN => by
        have := keep_any p a' q c' L (L.map (·.1)) V hV hN
        rw [keepP_right hrL, keepL_all L (L.map (·.1)) (fun l hl => List.mem_map_of_mem hl), List.length_map] at this
        exact this
      have hk0 : ∀ V, HasLabs V p q L → Calls Try.prog 25 #[.slice p L.length q, .slice none 0 0] V (LabsE [] 0 V) := fun V hV => by
        have := keep_any p none q 0 L [] V hV (HasStrs.nil _ _ _ (by unfold maxLen; omega))
        rw [keepP_right hrL, keepL_nil] at this
        exact this
      have hsm := fun a b c d V (h1 : HasLabs V a b L) (h2 : HasLabs V c d L) => rSame_any a c b d L L V h1 h2
      rw [decide_eq_true rfl] at hsm
      have HKL := Lib.hid hkl
      have HK0 := Lib.hid hk0
      have HSM := Lib.hid hsm
      have HLA := Lib.hid hL
      have HXA := Lib.hid hX
      have HSZ := Lib.hid hL.2.2.1
      have hq1 := hL.1
      have hq2 := hL.2.1
      unfold maxLen at hq2
      have hww : (Wv.toList == Wv.toList) = true := by simp
      clear hkl hk0 hsm hL hX
      go_upto_region 9 with fail
      go_wp2_with fail
      go_loopw [10, 48] (fun v i wr => ∃ k : Nat, k ≤ L.length ∧ i = .int .i64 k ∧ wr.ownsRow WA.heap.size 9 1 v k (strsV ((L.take k).map (·.1))) ∧ Below WA.heap.size WA wr ∧ WA.heap.size ≤ wr.heap.size) (fun _ i _ => L.length - (intOf i).toNat)
      case atStart => exact ⟨0, Nat.zero_le _, rfl, World.ownsRow_nil _ _ _ _, Below.refl _ _, Nat.le_refl _⟩
      case round =>
        obtain ⟨k, hk, rfl, hown, hbl, hz⟩ := hrel
        by_cases hkL : k < L.length
        · obtain ⟨b, off, rfl, hbb, hcell⟩ := (HLA.out.call hbl).some k hkL
          obtain ⟨hc1, hc2⟩ := hcell k hkL
          have htk : strsV ((L.take (k + 1)).map (·.1)) = strsV ((L.take k).map (·.1)) ++ [.string L[k].1] := by
            rw [List.take_succ_eq_append_getElem hkL, List.map_append, strsV_push]; rfl
          obtain ⟨X, hX⟩ : ∃ X, L[k] = X := ⟨_, rfl⟩
          rw [hX] at hc1 hc2 htk
          have HTK := Lib.hid htk
          have hownW : (wr.alloc (.cells #[.string X.1, .string X.2] 49)).ownsRow WA.heap.size 9 1 u10 k (strsV ((L.take k).map (·.1))) := hown.alloc _
          have hbW := hbl.alloc hz (.cells #[.string X.1, .string X.2] 49)
          have hzW := hbW.size
          have hbx := Blk.new wr 49 #[.string X.1, .string X.2]
          obtain ⟨ST, HST⟩ : ∃ ST, Hid (strsV ((L.take k).map (·.1)) = ST) := ⟨_, Lib.hid rfl⟩
          rw [HST.out] at hownW
          clear hX htk hcell hown hbl
          go_upto_region 12 with fail
          generalize wr.alloc (.cells #[.string X.1, .string X.2] 49) = W at *
          generalize wr.heap.size = B at *
          have q1 : W.cell? ⟨B, 0, none⟩ = some (.string X.1) := hbx.cell 0
          go_wp2_with (at_builtin; refine wpList_push W rfl _ _ 40 rfl WA.heap.size 9 i1 (.string ⟨#[]⟩) 16 Try.underlying40 hi1 hy0 hy1 hy2 rfl u10 k ST rfl hownW (.string X.1) rfl rfl ?c1 ?c2 hzW ?_)
          case c1 => unfold maxLen; omega
          case c2 => omega
          intro g c2 w2 hown2 hg2
          have hb2 : Below WA.heap.size WA w2 := hbW.grown hg2 hzW (fun g hg => (hownW.lt g hg).1)
          clear q1 hownW hbW hbx
          go_wp2
          go_roundw
          case rel => exact ⟨k + 1, by omega, by go_num, by rw [HTK.out, HST.out]; exact hown2, hb2, hb2.size⟩
          case measure => simp [intOf]; omega
        · obtain rfl : k = L.length := by omega
          have hnl : (L.take L.length).map (·.1) = L.map (·.1) := by rw [List.take_length]
          rw [hnl] at hown
          obtain ⟨a5, c5, rfl, hN⟩ := strs_of_own (ss := L.map (·.1)) (by simpa using hown) (fun s hs => by obtain ⟨l, hl, rfl⟩ := List.mem_map.1 hs; exact (HSZ.out l hl).1)
          rw [List.length_map] at *
          have hLr := HLA.out.call hbl
          have hXr := HXA.out.call hbl
          clear hown hnl
          go_wp2_with (first
            | (go_at_call 25; first | ((with_reducible refine (HK0.out _ hL5).mono ?_); rintro e w6 ⟨a6, c6, rfl, hL6, hb6⟩; have hL7 := hL5.call hb6; have hX7 := hX5.call hb6; have hK7 := hK5.call hb6) | ((with_reducible refine (HKL.out _ _ _ hLr hN).mono ?_); rintro e w5 ⟨a7, c7, rfl, hK5, hb5⟩; have hL5 := hLr.call hb5; have hX5 := hXr.call hb5))
            | (go_at_call 19; (with_reducible refine (alive_any _).mono ?_); rintro e w8 ⟨rfl, hb8⟩; have hL8 := hL7.call hb8; have hX8 := hX7.call hb8; have hK8 := hK7.call hb8)
            | (go_at_call 17; (with_reducible refine (HGX.out _ hX8).mono ?_); rintro e w9 ⟨rfl, hb9⟩; have hL9 := hL8.call hb9; have hX9 := hX8.call hb9; have hK9 := hK8.call hb9)
            | (go_at_call 14; (with_reducible refine (HRX.out _ hX9).mono ?_); rintro e w10 ⟨rfl, hb10⟩; have hL10 := hL9.call hb10; have hK10 := hK9.call hb10)
            | (go_at_call 16; (with_reducible refine (HSM.out _ _ _ _ _ hK10 hL10).mono ?_); rintro e w11 ⟨rfl, hb11⟩))
          go_ret
          refine ⟨rfl, ?_⟩
          exact HBA.out.trans ((bthen (bthen (bthen (bthen (bthen (bthen hbl hb5) hb6) hb8) hb9) hb10) hb11).mono HBA.out.size)
    · rw [if_neg hE] at hgo
      rw [decide_eq_false hE] at hem
      clear hE
      obtain ⟨Wv, hW⟩ : ∃ Wv, getL O a2 = Wv := ⟨_, rfl⟩
      rw [hW] at HGO hem hgo
      rw [hgo] at hgx
      have HRX0 := Lib.hid hrx
      have HGX0 := Lib.hid hgx
      clear hrx hgx hgo hW hrR
      go_upto_region 8 with (first
        | (go_at_call 24; refine (HWI.out _ hL1 hO).mono ?_; rintro e w2 ⟨x, y, rfl, hX2, hb2⟩; have hL2 := hL1.call hb2; have hO2 := hO.call hb2)
        | (go_at_call 17; ((with_reducible refine (HGO.out _ hO2).mono ?_); rintro e WA ⟨rfl, hb3⟩; have hL := hL2.call hb3; have hX := hX2.call hb3)))
      have hBA := bthen (bthen HB.out hb2) hb3
      have HBA := Lib.hid hBA
      have HRX := Lib.hid (HRX0.out x y)
      have HGX := Lib.hid (HGX0.out x y)
      clear hBA hb2 hb3 hL1 hL2 hO hO2 hX2
      have hkl : ∀ (a' : Option Addr) (c' : Nat) V, HasLabs V p q L → HasStrs V a' c' (L.map (·.1)) → Calls Try.prog 25 #[.slice p L.length q, .slice a' L.length c'] V (LabsE L 0 V) := fun a' c' V hV hN => by
        have := keep_any p a' q c' L (L.map (·.1)) V hV hN
        rw [keepP_right hrL, keepL_all L (L.map (·.1)) (fun l hl => List.mem_map_of_mem hl), List.length_map] at this
        exact this
      have hk0 : ∀ V, HasLabs V p q L → Calls Try.prog 25 #[.slice p L.length q, .slice none 0 0] V (LabsE [] 0 V) := fun V hV => by
        have := keep_any p none q 0 L [] V hV (HasStrs.nil _ _ _ (by unfold maxLen; omega))
        rw [keepP_right hrL, keepL_nil] at this
        exact this
      have hsm := fun a b c d V (h1 : HasLabs V a b L) (h2 : HasLabs V c d L) => rSame_any a c b d L L V h1 h2
      rw [decide_eq_true rfl] at hsm
      have HKL := Lib.hid hkl
      have HK0 := Lib.hid hk0
      have HSM := Lib.hid hsm
      have HLA := Lib.hid hL
      have HXA := Lib.hid hX
      have HSZ := Lib.hid hL.2.2.1
      have hq1 := hL.1
      have hq2 := hL.2.1
      unfold maxLen at hq2
      have hww : (Wv.toList == Wv.toList) = true := by simp
      clear hkl hk0 hsm hL hX
      go_upto_region 9 with fail
      go_wp2_with fail
      go_loopw [10, 48] (fun v i wr => ∃ k : Nat, k ≤ L.length ∧ i = .int .i64 k ∧ wr.ownsRow WA.heap.size 9 1 v k (strsV ((L.take k).map (·.1))) ∧ Below WA.heap.size WA wr ∧ WA.heap.size ≤ wr.heap.size) (fun _ i _ => L.length - (intOf i).toNat)
      case atStart => exact ⟨0, Nat.zero_le _, rfl, World.ownsRow_nil _ _ _ _, Below.refl _ _, Nat.le_refl _⟩
      case round =>
        obtain ⟨k, hk, rfl, hown, hbl, hz⟩ := hrel
        by_cases hkL : k < L.length
        · obtain ⟨b, off, rfl, hbb, hcell⟩ := (HLA.out.call hbl).some k hkL
          obtain ⟨hc1, hc2⟩ := hcell k hkL
          have htk : strsV ((L.take (k + 1)).map (·.1)) = strsV ((L.take k).map (·.1)) ++ [.string L[k].1] := by
            rw [List.take_succ_eq_append_getElem hkL, List.map_append, strsV_push]; rfl
          obtain ⟨X, hX⟩ : ∃ X, L[k] = X := ⟨_, rfl⟩
          rw [hX] at hc1 hc2 htk
          have HTK := Lib.hid htk
          have hownW : (wr.alloc (.cells #[.string X.1, .string X.2] 49)).ownsRow WA.heap.size 9 1 u10 k (strsV ((L.take k).map (·.1))) := hown.alloc _
          have hbW := hbl.alloc hz (.cells #[.string X.1, .string X.2] 49)
          have hzW := hbW.size
          have hbx := Blk.new wr 49 #[.string X.1, .string X.2]
          obtain ⟨ST, HST⟩ : ∃ ST, Hid (strsV ((L.take k).map (·.1)) = ST) := ⟨_, Lib.hid rfl⟩
          rw [HST.out] at hownW
          clear hX htk hcell hown hbl
          go_upto_region 12 with fail
          generalize wr.alloc (.cells #[.string X.1, .string X.2] 49) = W at *
          generalize wr.heap.size = B at *
          have q1 : W.cell? ⟨B, 0, none⟩ = some (.string X.1) := hbx.cell 0
          go_wp2_with (at_builtin; refine wpList_push W rfl _ _ 40 rfl WA.heap.size 9 i1 (.string ⟨#[]⟩) 16 Try.underlying40 hi1 hy0 hy1 hy2 rfl u10 k ST rfl hownW (.string X.1) rfl rfl ?c1 ?c2 hzW ?_)
          case c1 => unfold maxLen; omega
          case c2 => omega
          intro g c2 w2 hown2 hg2
          have hb2 : Below WA.heap.size WA w2 := hbW.grown hg2 hzW (fun g hg => (hownW.lt g hg).1)
          clear q1 hownW hbW hbx
          go_wp2
          go_roundw
          case rel => exact ⟨k + 1, by omega, by go_num, by rw [HTK.out, HST.out]; exact hown2, hb2, hb2.size⟩
          case measure => simp [intOf]; omega
        · obtain rfl : k = L.length := by omega
          have hnl : (L.take L.length).map (·.1) = L.map (·.1) := by rw [List.take_length]
          rw [hnl] at hown
          obtain ⟨a5, c5, rfl, hN⟩ := strs_of_own (ss := L.map (·.1)) (by simpa using hown) (fun s hs => by obtain ⟨l, hl, rfl⟩ := List.mem_map.1 hs; exact (HSZ.out l hl).1)
          rw [List.length_map] at *
          have hLr := HLA.out.call hbl
          have hXr := HXA.out.call hbl
          clear hown hnl
          go_wp2_with (first
            | (go_at_call 25; first | ((with_reducible refine (HK0.out _ hL5).mono ?_); rintro e w6 ⟨a6, c6, rfl, hL6, hb6⟩; have hL7 := hL5.call hb6; have hX7 := hX5.call hb6; have hK7 := hK5.call hb6) | ((with_reducible refine (HKL.out _ _ _ hLr hN).mono ?_); rintro e w5 ⟨a7, c7, rfl, hK5, hb5⟩; have hL5 := hLr.call hb5; have hX5 := hXr.call hb5))
            | (go_at_call 19; (with_reducible refine (alive_any _).mono ?_); rintro e w8 ⟨rfl, hb8⟩; have hL8 := hL7.call hb8; have hX8 := hX7.call hb8; have hK8 := hK7.call hb8)
            | (go_at_call 17; (with_reducible refine (HGX.out _ hX8).mono ?_); rintro e w9 ⟨rfl, hb9⟩; have hL9 := hL8.call hb9; have hX9 := hX8.call hb9; have hK9 := hK8.call hb9)
            | (go_at_call 14; (with_reducible refine (HRX.out _ hX9).mono ?_); rintro e w10 ⟨rfl, hb10⟩; have hL10 := hL9.call hb10; have hK10 := hK9.call hb10)
            | (go_at_call 16; (with_reducible refine (HSM.out _ _ _ _ _ hK10 hL10).mono ?_); rintro e w11 ⟨rfl, hb11⟩))
          go_ret
          refine ⟨rfl, ?_⟩
          exact HBA.out.trans ((bthen (bthen (bthen (bthen (bthen (bthen hbl hb5) hb6) hb8) hb9) hb10) hb11).mono HBA.out.size)
  all_goals
    rw [hP] at hwi
    have HWI := Lib.hid hwi
    clear hwi hP
    go_wp2_with (first
      | (go_at_call 24; refine (HWI.out _ hL1 hO).mono ?_; rintro e w2 ⟨x, y, rfl, hX2, hb2⟩)
      | (go_at_call 19; refine (alive_any _).mono ?_; rintro e w3 ⟨rfl, hb3⟩))
    go_ret
    exact ⟨rfl, bthen (bthen HB.out hb2) hb3⟩
end Go.Proofs.Ytlejejmcicecgaa
