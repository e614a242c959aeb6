/- LabelApart: for every two rows of labels: two sets of no common name, laid over one another either way, are the same; each of them is what is kept of its names. -/
import Derived.Test.YtlejejmcicecgaaLabelOverW
namespace Go.Proofs.Ytlejejmcicecgaa
open Go.RowKit

theorem owns_later {w w1 : World} {base e size n : Nat} {v : Value} {xs : List Value} (h : w.ownsRow base e size v n xs) (hb : Below w.heap.size w w1) : w1.ownsRow base e size v n xs :=
  h.kept (row := none) ⟨hb.os, hb.tape, hb.output, hb.size, fun k hk _ => hb.block k hk⟩ (by cases v.ownBlock <;> simp)
theorem restL_apart {ls ms : List Lab} (h : ∀ l ∈ ls, hasN ms l.1 = false) : restL ls ms = ls := List.filter_eq_self.2 fun l hl => by rw [h l hl]; rfl
theorem hasN_turn {ls ms : List Lab} (h : ∀ l ∈ ls, hasN ms l.1 = false) : ∀ m ∈ ms, hasN ls m.1 = false := by
  intro m hm
  rw [← Bool.not_eq_true, hasN_iff]
  rintro ⟨l, hl, e⟩
  have := h l hl
  rw [(hasN_iff ms l.1).2 ⟨m, hm, e.symm⟩] at this
  cases this
theorem apart_with {ls ms : List Lab} (h : rightC ls = true → rightC ms = true → ∀ l ∈ ls, hasN ms l.1 = false) : withP ms ls = withP ls ms := by
  cases hr : rightC ls with
  | false =>
    cases hr' : rightC ms with
    | false => rw [withP, if_neg (by rw [hr']; simp), withP, if_neg (by rw [hr]; simp)]
    | true => rw [withP, if_pos hr', if_neg (by rw [hr]; simp), withP, if_neg (by rw [hr]; simp)]
  | true =>
    cases hr' : rightC ms with
    | false => rw [withP, if_neg (by rw [hr']; simp), withP, if_pos hr, if_neg (by rw [hr']; simp)]
    | true =>
      rw [withP, if_pos hr', if_pos hr, withP, if_pos hr, if_pos hr', restL_apart (h hr hr'), restL_apart (hasN_turn (h hr hr'))]
      exact newP_perm List.perm_append_comm
theorem apart_keep {ls ms out : List Lab} (h : ∀ l ∈ ls, hasN ms l.1 = false) (hr : rightC ls = true) (ho : rightC out = true) (hp : out.Perm (restL ls ms ++ ms)) :
    keepL out (ls.map (·.1)) = ls ∧ out.length = ls.length + ms.length := by
  rw [restL_apart h] at hp
  refine ⟨?_, by rw [hp.length_eq, List.length_append]⟩
  have hk : (keepL out (ls.map (·.1))).Perm ls := by
    have h1 := hp.filter (fun l => inB l.1 (ls.map (·.1)))
    rw [List.filter_append] at h1
    have h2 : ls.filter (fun l => inB l.1 (ls.map (·.1))) = ls := List.filter_eq_self.2 fun l hl => (inB_iff _ _).2 (List.mem_map_of_mem hl)
    have h3 : ms.filter (fun l => inB l.1 (ls.map (·.1))) = [] := by
      rw [List.filter_eq_nil_iff]
      intro m hm e
      obtain ⟨l, hl, e1⟩ := List.mem_map.1 ((inB_iff _ _).1 e)
      have := hasN_turn h m hm
      rw [(hasN_iff ls m.1).2 ⟨l, hl, e1⟩] at this
      cases this
    rw [h2, h3, List.append_nil] at h1
    exact h1
  have hka := ((rightC_iff _).1 (keepL_right ho (ls.map (·.1)))).2.2
  exact asc_uniq _ _ ((rightC_iff ls).1 hr).2.2 (WS.of_asc hka) hk
theorem no_has {ls ms : List Lab} (h : ∀ l ∈ ls, getL ms l.1 = ⟨#[]⟩) : rightC ls = true → rightC ms = true → ∀ l ∈ ls, hasN ms l.1 = false := by
  intro _ hr' l hl
  obtain ⟨_, b2, b3⟩ := (rightC_iff ms).1 hr'
  exact (getL_has b3.dis b2 l.1).1 (h l hl)

set_option maxHeartbeats 3200000 in
set_option maxRecDepth 100000 in
theorem labelApart_walk (a0 : Option Addr) (len0 cap0 : Nat) (ls0 : List Lab) (w : World) (w0 : ls0.length = len0 ∧ HasLabs w a0 cap0 ls0) (a1 : Option Addr) (len1 cap1 : Nat) (ls1 : List Lab) (w1 : ls1.length = len1 ∧ HasLabs w a1 cap1 ls1) :
    Calls Try.prog 9 #[.slice a0 len0 cap0, .slice a1 len1 cap1] w fun e w' => e = .returned (.bool true) ∧ Below w.heap.size w w' := by
  obtain ⟨rfl, h0⟩ := w0
  obtain ⟨rfl, h1⟩ := w1
  obtain ⟨i1, hi1, hy0, hy1, hy2⟩ := info_parts Try.infoS
  have HF0 := Lib.hid (fun V (hV : HasLabs V a0 cap0 ls0) => few_any a0 cap0 ls0 V hV)
  have HF1 := Lib.hid (fun V (hV : HasLabs V a1 cap1 ls1) => few_any a1 cap1 ls1 V hV)
  have H0 := Lib.hid h0
  have H1 := Lib.hid h1
  have hlen := fewL_len ls0
  have hlen' := fewL_len ls1
  clear h0 h1
  go_enter Try.func9, Try.ntmps9
  go_upto_region 2 with (go_at_call 10; first | ((with_reducible refine (HF1.out _ (H1.out.call hbf)).mono ?_); rintro e wb ⟨p', q', rfl, hO, hbg⟩) | ((with_reducible refine (HF0.out _ H0.out).mono ?_); rintro e WA0 ⟨p, q, rfl, hL, hbf⟩))
  have hL1 := hL.call hbg
  have hB := bthen hbf hbg
  have HBA := Lib.hid hB
  clear hL hbf hbg hB
  generalize fewL ls0 = L at *
  generalize fewL ls1 = O at *
  have HLA := Lib.hid hL1
  have HOA := Lib.hid hO
  have HSZ := Lib.hid hL1.2.2.1
  have hq1 := hL1.1
  have hq2 := hL1.2.1
  have hq3 := hO.1
  have hq4 := hO.2.1
  unfold maxLen at hq2 hq4
  clear hL1 hO
  generalize wb = WA at *
  go_wp2_with fail
  go_loopw [5, 20] (fun v i wr => ∃ k : Nat, k ≤ L.length ∧ i = .int .i64 k ∧ wr.ownsRow WA.heap.size 9 1 v k (strsV ((L.take k).map (·.1))) ∧ (∀ l ∈ L.take k, getL O l.1 = ⟨#[]⟩) ∧ Below WA.heap.size WA wr ∧ WA.heap.size ≤ wr.heap.size) (fun _ i _ => L.length - (intOf i).toNat)
  case atStart => exact ⟨0, Nat.zero_le _, rfl, World.ownsRow_nil _ _ _ _, (fun l hl => by simp at hl), Below.refl _ _, Nat.le_refl _⟩
  case round =>
    obtain ⟨k, hk, rfl, hown, hno, hbl, hz⟩ := hrel
    have HNO := Lib.hid hno
    clear hno
    by_cases hkL : k < L.length
    · obtain ⟨b, off, rfl, hbb, hcell⟩ := (HLA.out.call hbl).some k hkL
      obtain ⟨hc1, hc2⟩ := hcell k hkL
      have htk : strsV ((L.take (k + 1)).map (·.1)) = strsV ((L.take k).map (·.1)) ++ [.string L[k].1] := by
        rw [List.take_succ_eq_append_getElem hkL, List.map_append, strsV_push]; rfl
      have htn : getL O L[k].1 = ⟨#[]⟩ → ∀ l ∈ L.take (k + 1), getL O l.1 = ⟨#[]⟩ := by
        intro h l hl
        rw [List.take_succ_eq_append_getElem hkL] at hl
        rcases List.mem_append.1 hl with hl | hl
        · exact HNO.out l hl
        · simp at hl; subst hl; exact h
      obtain ⟨X, hX⟩ : ∃ X, L[k] = X := ⟨_, rfl⟩
      rw [hX] at hc1 hc2 htk htn
      have HTK := Lib.hid htk
      have HTN := Lib.hid htn
      have hownW : (wr.alloc (.cells #[.string X.1, .string X.2] 49)).ownsRow WA.heap.size 9 1 u5 k (strsV ((L.take k).map (·.1))) := hown.alloc _
      have hbW := hbl.alloc hz (.cells #[.string X.1, .string X.2] 49)
      have hzW := hbW.size
      have hbx := Blk.new wr 49 #[.string X.1, .string X.2]
      obtain ⟨ST, HST⟩ : ∃ ST, Hid (strsV ((L.take k).map (·.1)) = ST) := ⟨_, Lib.hid rfl⟩
      rw [HST.out] at hownW
      have hgt := fun V (hV : HasLabs V p' q' O) => get_any p' q' O X.1 V hV
      have hem := str_empty (getL O X.1)
      have HGT := Lib.hid hgt
      have hne : some wr.heap.size ≠ u5.ownBlock := fun e => by have := (World.ownsRow.lt hown _ e.symm).2; omega
      clear hX htk htn hcell hown hbl hgt
      go_upto_region 6 with fail
      generalize wr.alloc (.cells #[.string X.1, .string X.2] 49) = W at *
      generalize wr.heap.size = B at *
      have q1 : W.cell? ⟨B, 0, none⟩ = some (.string X.1) := hbx.cell 0
      go_wp2_with (at_builtin; refine wpList_push W rfl _ _ 40 rfl WA.heap.size 9 i1 (.string ⟨#[]⟩) 16 Try.underlying40 hi1 hy0 hy1 hy2 rfl u5 k ST rfl hownW (.string X.1) rfl rfl ?c1 ?c2 hzW ?_)
      case c1 => unfold maxLen; omega
      case c2 => omega
      intro g c2 w2 hown2 hg2
      have hb2 : Below WA.heap.size WA w2 := hbW.grown hg2 hzW (fun g hg => (hownW.lt g hg).1)
      have hbx2 := hbx.push hg2 hne
      have q2 : w2.cell? ⟨B, 0, none⟩ = some (.string X.1) := hbx2.cell 0
      have hOW := HOA.out.call hb2
      clear q1 hownW hbW hbx hg2 hzW
      by_cases hE : getL O X.1 = ⟨#[]⟩
      · rw [decide_eq_true hE] at hem
        have hN := HTN.out hE
        have HN := Lib.hid hN
        obtain ⟨G, hG⟩ : ∃ G, getL O X.1 = G := ⟨_, rfl⟩
        rw [hG] at HGT hem
        clear hE hN hG
        go_wp2_with (go_at_call 17; (with_reducible refine (HGT.out _ hOW).mono ?_); rintro e w3 ⟨rfl, hb3⟩)
        have hown3 := owns_later hown2 hb3
        have hb4 := bthen hb2 hb3
        go_roundw
        case rel => exact ⟨k + 1, by omega, by go_num, by rw [HTK.out, HST.out]; exact hown3, HN.out, hb4, hb4.size⟩
        case measure => simp [intOf]; omega
      · rw [decide_eq_false hE] at hem
        obtain ⟨G, hG⟩ : ∃ G, getL O X.1 = G := ⟨_, rfl⟩
        rw [hG] at HGT hem
        clear hE hG
        go_wp2_with (first
          | (go_at_call 17; (with_reducible refine (HGT.out _ hOW).mono ?_); rintro e w3 ⟨rfl, hb3⟩)
          | (go_at_call 19; (with_reducible refine (alive_any _).mono ?_); rintro e w4 ⟨rfl, hb4⟩))
        go_ret
        exact ⟨rfl, HBA.out.trans ((bthen (bthen hb2 hb3) hb4).mono HBA.out.size)⟩
    · obtain rfl : k = L.length := by omega
      have hnl : (L.take L.length).map (·.1) = L.map (·.1) := by rw [List.take_length]
      rw [hnl] at hown
      have hno : ∀ l ∈ L, getL O l.1 = ⟨#[]⟩ := fun l hl => HNO.out l (by rw [List.take_length]; exact hl)
      obtain ⟨a5, c5, rfl, hN⟩ := strs_of_own (ss := L.map (·.1)) (by simpa using hown) (fun s hs => by obtain ⟨l, hl, rfl⟩ := List.mem_map.1 hs; exact (HSZ.out l hl).1)
      rw [List.length_map] at *
      have hLr := HLA.out.call hbl
      have hOr := HOA.out.call hbl
      have hap := no_has hno
      have hw1 := fun V (h1 : HasLabs V p q L) (h2 : HasLabs V p' q' O) => with_any p p' q q' L O V h1 h2
      have hw2 := fun V (h1 : HasLabs V p' q' O) (h2 : HasLabs V p q L) => with_any p' p q' q O L V h1 h2
      rw [apart_with hap] at hw2
      clear hown hnl hno
      rcases withP_cases L O with ⟨R, hP, hrL, hrO, hpm, hrR⟩ | hP | hP
      · obtain ⟨hkp, hsum⟩ := apart_keep (hap hrL hrO) hrL hrR hpm
        rw [hP] at hw1 hw2
        have hkl : ∀ (a' : Option Addr) (c' : Nat) (a'' : Option Addr) (c'' : Nat) V, HasLabs V a'' c'' R → HasStrs V a' c' (L.map (·.1)) → Calls Try.prog 25 #[.slice a'' R.length c'', .slice a' L.length c'] V (LabsE L 0 V) := fun a' c' a'' c'' V hV hN => by
          have := keep_any a'' a' c'' c' R (L.map (·.1)) V hV hN
          rw [keepP_right hrR, hkp, List.length_map] at this
          exact this
        have hs1 := fun a b c d V (h1 : HasLabs V a b R) (h2 : HasLabs V c d R) => rSame_any a c b d R R V h1 h2
        have hs2 := fun a b c d V (h1 : HasLabs V a b L) (h2 : HasLabs V c d L) => rSame_any a c b d L L V h1 h2
        rw [decide_eq_true rfl] at hs1 hs2
        have HW1 := Lib.hid hw1
        have HW2 := Lib.hid hw2
        have HKL := Lib.hid hkl
        have HS1 := Lib.hid hs1
        have HS2 := Lib.hid hs2
        have hs3 : IntKind.i64.wrap ((L.length : Int) + (O.length : Int)) = (R.length : Int) := by rw [IntWalk.i64_in _ (by omega)]; omega
        have hs4 : (L.length : Int) + (O.length : Int) = (R.length : Int) := by omega
        have hs5 : ((R.length : Int) == (R.length : Int)) = true := by rw [beq_iff_eq]
        clear hw1 hw2 hkl hs1 hs2 hP hpm hrR hkp hsum hap
        go_wp2_with (first
          | (go_at_call 24; first | ((with_reducible refine (HW2.out _ hO6 hL6).mono ?_); rintro e w7 ⟨x', y', rfl, hR7', hb7⟩; have hL7 := hL6.call hb7; have hR7 := hR6.call hb7) | ((with_reducible refine (HW1.out _ hLr hOr).mono ?_); rintro e w6 ⟨x, y, rfl, hR6, hb6⟩; have hL6 := hLr.call hb6; have hO6 := hOr.call hb6))
          | (go_at_call 16; first | ((with_reducible refine (HS2.out _ _ _ _ _ hK10 hL10).mono ?_); rintro e w11 ⟨rfl, hb11⟩) | ((with_reducible refine (HS1.out _ _ _ _ _ hR7 hR7').mono ?_); rintro e w8 ⟨rfl, hb8⟩; have hL8 := hL7.call hb8; have hR8 := hR7.call hb8))
          | (go_at_call 19; (with_reducible refine (alive_any _).mono ?_); rintro e w9 ⟨rfl, hb9⟩; have hL9 := hL8.call hb9; have hR9 := hR8.call hb9)
          | (go_at_call 25; (with_reducible refine (HKL.out _ _ _ _ _ hR9 (((hN.call hb6).call hb7).call hb8 |>.call hb9)).mono ?_); rintro e w10 ⟨x2, y2, rfl, hK10, hb10⟩; have hL10 := hL9.call hb10))
        go_ret
        exact ⟨rfl, HBA.out.trans ((bthen (bthen (bthen (bthen (bthen (bthen hbl hb6) hb7) hb8) hb9) hb10) hb11).mono HBA.out.size)⟩
      all_goals
        rw [hP] at hw1 hw2
        have hs1 : ∀ a b c d V, HasLabs V a b [] → HasLabs V c d [] → Calls Try.prog 16 #[.slice a 0 b, .slice c 0 d] V (BoolB true V) := fun a b c d V (h1 : HasLabs V a b []) (h2 : HasLabs V c d []) => rSame_any a c b d [] [] V h1 h2
        have HW1 := Lib.hid hw1
        have HW2 := Lib.hid hw2
        have HS1 := Lib.hid hs1
        clear hw1 hw2 hs1 hP hap
        go_wp2_with (first
          | (go_at_call 24; first | ((with_reducible refine (HW2.out _ hO6 hL6).mono ?_); rintro e w7 ⟨x', y', rfl, hR7', hb7⟩; have hR7 := hR6.call hb7) | ((with_reducible refine (HW1.out _ hLr hOr).mono ?_); rintro e w6 ⟨x, y, rfl, hR6, hb6⟩; have hL6 := hLr.call hb6; have hO6 := hOr.call hb6))
          | (go_at_call 16; (with_reducible refine (HS1.out _ _ _ _ _ hR7 hR7').mono ?_); rintro e w8 ⟨rfl, hb8⟩)
          | (go_at_call 19; (with_reducible refine (alive_any _).mono ?_); rintro e w9 ⟨rfl, hb9⟩))
        go_ret
        exact ⟨rfl, HBA.out.trans ((bthen (bthen (bthen (bthen hbl hb6) hb7) hb8) hb9).mono HBA.out.size)⟩
end Go.Proofs.Ytlejejmcicecgaa
