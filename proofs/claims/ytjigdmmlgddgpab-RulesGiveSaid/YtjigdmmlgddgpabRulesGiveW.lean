/- RulesGive: for every rule and every row of labels: an alert's labels have the rule's, and its name, whatever the sample's are; the others are the sample's: the law's walk. -/
import Derived.Test.YtjigdmmlgddgpabRulG
import Derived.Test.YtjigdmmlgddgpabRulH
import Derived.Test.YtjigdmmlgddgpabRulW
import Derived.Test.YtjigdmmlgddgpabMapS
import Derived.Test.YtjigdmmlgddgpabLabR
namespace Go.Proofs.Ytjigdmmlgddgpab
open Go.RowKit

/-- what an alert has ahead of the sample's labels -/
def baseL (r : Rul) : List Lab := (aName, r.name) :: r.labels
theorem hasN_cons (l : Lab) (ms : List Lab) (s : ByteArray) : hasN (l :: ms) s = (decide (l.1 = s) || hasN ms s) := rfl
theorem hasN_app (ks ms : List Lab) (s : ByteArray) : hasN (ks ++ ms) s = (hasN ks s || hasN ms s) := by simp [hasN]
theorem restL_app (ks ms bs : List Lab) : restL (ks ++ ms) bs = restL ks bs ++ restL ms bs := by simp [restL]
theorem restL_two (ls : List Lab) (l : Lab) (ms : List Lab) : restL (restL ls ms) [l] = restL ls (l :: ms) := by
  simp only [restL, List.filter_filter]
  refine List.filter_congr fun x _ => ?_
  rw [hasN_cons, hasN_cons]
  cases decide (l.1 = x.1) <;> cases hasN ms x.1 <;> rfl
theorem restL_none (ls : List Lab) (l : Lab) (h : hasN ls l.1 = false) : restL ls [l] = ls := by
  rw [restL, List.filter_eq_self]
  intro x hx
  rw [hasN_cons]
  have : l.1 ≠ x.1 := fun e => by
    rw [(hasN_iff ls l.1).2 ⟨x, hx, e.symm⟩] at h
    cases h
  simp [this, hasN]
theorem restL_perm {ks ms : List Lab} (h : ks.Perm ms) (bs : List Lab) : (restL ks bs).Perm (restL ms bs) := h.filter _
theorem give_cases (r : Rul) (ls : List Lab) : (∃ M, alabsP r ls = (M, 0) ∧ rulC r = true ∧ rightC ls = true ∧ M.Perm (baseL r ++ restL ls (baseL r)) ∧ rightC M = true) ∨ ∃ n : Int, alabsP r ls = ([], n) ∧ (n = 1 ∨ n = 2) := by
  cases hr : rulC r with
  | false => exact .inr ⟨1, alabs_bad (.inl hr), .inl rfl⟩
  | true =>
    cases hl : rightC ls with
    | false => exact .inr ⟨1, alabs_bad (.inr hl), .inl rfl⟩
    | true =>
      obtain ⟨g1, g2, g3, g4⟩ := rul_labs hr
      have hp := sortL_perm (r.labels ++ restL ls r.labels)
      have hs := sortL_ws (r.labels ++ restL ls r.labels)
      generalize sortL (r.labels ++ restL ls r.labels) = first at *
      have hp2 := sortL_perm ([(aName, r.name)] ++ restL first [(aName, r.name)])
      have hs2 := sortL_ws ([(aName, r.name)] ++ restL first [(aName, r.name)])
      generalize sortL ([(aName, r.name)] ++ restL first [(aName, r.name)]) = want at *
      have ha := alabs_want hr hl hp hs hp2 hs2
      by_cases h8 : first.length ≤ 8
      · by_cases h9 : want.length ≤ 8
        · rw [if_pos h8, if_pos h9] at ha
          refine .inl ⟨want, ha, rfl, rfl, hp2.trans ?_, ?_⟩
          · have h3 := restL_perm hp [(aName, r.name)]
            rw [restL_app, restL_none r.labels (aName, r.name) g2, restL_two] at h3
            exact h3.append_left [(aName, r.name)]
          · exact (lays_over ((lays_over hl g1 hp hs).2 h8) (name_right g4) hp2 hs2).2 h9
        · rw [if_pos h8, if_neg h9] at ha
          exact .inr ⟨2, ha, .inr rfl⟩
      · rw [if_neg h8] at ha
        exact .inr ⟨2, ha, .inr rfl⟩
theorem dis_has {ls : List Lab} (h : Dis ls) (i : Nat) (hi : i < ls.length) : hasN (ls.take i) ls[i].1 = false := by
  rw [← Bool.not_eq_true, hasN_iff]
  rintro ⟨m, hm, e⟩
  obtain ⟨j, hj, rfl⟩ := List.mem_iff_getElem.1 hm
  rw [List.getElem_take] at e
  have hji : j < i := by simp at hj; omega
  exact List.pairwise_iff_getElem.1 h j i (by omega) hi hji e
theorem rest_has {L bs : List Lab} (h : Dis L) (i : Nat) (hi : i < L.length) : hasN (bs ++ restL (L.take i) bs) L[i].1 = hasN bs L[i].1 := by
  rw [hasN_app]
  have : hasN (restL (L.take i) bs) L[i].1 = false := by
    have h1 := dis_has h i hi
    rw [← Bool.not_eq_true, hasN_iff] at h1 ⊢
    rintro ⟨m, hm, e⟩
    exact h1 ⟨m, (List.mem_filter.1 hm).1, e⟩
  rw [this, Bool.or_false]

set_option maxHeartbeats 12800000 in
set_option maxRecDepth 100000 in
theorem rulesGive_walk {w : World} (r : Rul) (a : Option Addr) (c : Nat) (h : RulAt w r a c) (a1 : Option Addr) (len1 cap1 : Nat) (ls : List Lab) (w1 : ls.length = len1 ∧ HasLabs w a1 cap1 ls) :
    Calls Try.prog 5 #[.agg (rCells r a c), .slice a1 len1 cap1] w (BoolB true w) := by
  obtain ⟨rfl, h1⟩ := w1
  have hb := (Below.refl w.heap.size w).alloc (Nat.le_refl _) (.cells (rCells r a c) 24)
  have hB := Blk.new w 24 (rCells r a c)
  have hC := cutR_any r a c _ (h.call hb)
  have hFL := fun W (hW : Below (w.alloc (.cells (rCells r a c) 24)).heap.size (w.alloc (.cells (rCells r a c) 24)) W) => few_any a1 cap1 ls W ((h1.call hb).call hW)
  obtain ⟨X, hX⟩ : ∃ X, cutR r = X := ⟨_, rfl⟩
  obtain ⟨L, hL⟩ : ∃ X, fewL ls = X := ⟨_, rfl⟩
  unfold CutP at hC
  unfold LabsF at hFL
  rw [hX] at hC
  rw [hL] at hFL
  have hz : (w.alloc (.cells (rCells r a c) 24)).heap.size = w.heap.size + 1 := by simp
  have HC := Lib.hid hC
  have HF := Lib.hid hFL
  have HBL := Lib.hid hb
  have HZ := Lib.hid hz
  clear hX hL hC hb h h1 hz hFL
  simp only [rCells] at *
  go_enter Try.func5, Try.ntmps5
  go_upto_region 1 with fail
  generalize w.alloc (.cells #[.string r.name, .string r.metric, .int .i64 r.how, .int .i64 r.limit, .int .i64 r.fr, .int .i64 r.keep, .int .i64 r.tries, .slice a r.labels.length c] 24) = wx at *
  obtain ⟨g, hg⟩ : ∃ g, w.heap.size = g := ⟨_, rfl⟩
  have HG : Hid (w.heap.size = g) := Lib.hid hg
  rw [hg] at hB ⊢
  clear hg
  obtain ⟨c0, c1, c2, c3, c4, c5, c6, c7⟩ := hB.cells8
  go_upto_region 2 with (first
    | (go_at_call 6; refine HC.out.mono ?_; rintro e wb ⟨a2, cc2, rfl, hA, hfr, hb2⟩)
    | (go_at_call 7; refine (HF.out _ hb2).mono ?_; rintro e wc ⟨a3, c3', rfl, hL3, hfr3, hb3⟩; have hb3' := bthen hb2 hb3; have hB2 := hB.call hb3'; obtain ⟨q0, q1, q2, q3, q4, q5, q6, q7⟩ := hB2.cells8; have f0 := hB2.frozen 0; have f1 := hB2.frozen 1; have f2 := hB2.frozen 2; have f3 := hB2.frozen 3; have f4 := hB2.frozen 4; have f5 := hB2.frozen 5; have f6 := hB2.frozen 6; have f7 := hB2.frozen 7))
  have hgl := hB.lt
  have hsz := hb2.size
  have hne : ∀ b o s, a2 = some ⟨b, o, s⟩ → b ≠ g := fun b o s e h => by have := hfr b o s e; omega
  have hne3 : ∀ b o s, a3 = some ⟨b, o, s⟩ → b ≠ g := fun b o s e h => by have := hfr3 b o s e; omega
  have hbw := below_set8 (bthen HBL.out hb3') (Nat.le_of_eq HG.out) (.string X.name) (.string X.metric) (.int .i64 X.how) (.int .i64 X.limit) (.int .i64 X.fr) (.int .i64 X.keep) (.int .i64 X.tries) (.slice a2 X.labels.length cc2)
  have hB3 := hB2.set8 (.string X.name) (.string X.metric) (.int .i64 X.how) (.int .i64 X.limit) (.int .i64 X.fr) (.int .i64 X.keep) (.int .i64 X.tries) (.slice a2 X.labels.length cc2)
  have hA3 : RulAt ((((((((wc.setCell ⟨g, 0, none⟩ (.string X.name)).setCell ⟨g, 1, none⟩ (.string X.metric)).setCell ⟨g, 2, none⟩ (.int .i64 X.how)).setCell ⟨g, 3, none⟩ (.int .i64 X.limit)).setCell ⟨g, 4, none⟩ (.int .i64 X.fr)).setCell ⟨g, 5, none⟩ (.int .i64 X.keep)).setCell ⟨g, 6, none⟩ (.int .i64 X.tries)).setCell ⟨g, 7, none⟩ (.slice a2 X.labels.length cc2)) X a2 cc2 := ⟨setO8 (hA.call hb3).1 hne (.string X.name) (.string X.metric) (.int .i64 X.how) (.int .i64 X.limit) (.int .i64 X.fr) (.int .i64 X.keep) (.int .i64 X.tries) (.slice a2 X.labels.length cc2), hA.2⟩
  have hL4 : HasLabs ((((((((wc.setCell ⟨g, 0, none⟩ (.string X.name)).setCell ⟨g, 1, none⟩ (.string X.metric)).setCell ⟨g, 2, none⟩ (.int .i64 X.how)).setCell ⟨g, 3, none⟩ (.int .i64 X.limit)).setCell ⟨g, 4, none⟩ (.int .i64 X.fr)).setCell ⟨g, 5, none⟩ (.int .i64 X.keep)).setCell ⟨g, 6, none⟩ (.int .i64 X.tries)).setCell ⟨g, 7, none⟩ (.slice a2 X.labels.length cc2)) a3 c3' L := setO8 hL3 hne3 (.string X.name) (.string X.metric) (.int .i64 X.how) (.int .i64 X.limit) (.int .i64 X.fr) (.int .i64 X.keep) (.int .i64 X.tries) (.slice a2 X.labels.length cc2)
  clear hA hB hB2 hb2 hb3 hb3' hL3 hfr hfr3 q0 q1 q2 q3 q4 q5 q6 q7 f0 f1 f2 f3 f4 f5 f6 f7 c0 c1 c2 c3 c4 c5 c6 c7 hgl hsz hne hne3 HC HF HBL HZ
  generalize ((((((((wc.setCell ⟨g, 0, none⟩ (.string X.name)).setCell ⟨g, 1, none⟩ (.string X.metric)).setCell ⟨g, 2, none⟩ (.int .i64 X.how)).setCell ⟨g, 3, none⟩ (.int .i64 X.limit)).setCell ⟨g, 4, none⟩ (.int .i64 X.fr)).setCell ⟨g, 5, none⟩ (.int .i64 X.keep)).setCell ⟨g, 6, none⟩ (.int .i64 X.tries)).setCell ⟨g, 7, none⟩ (.slice a2 X.labels.length cc2)) = w3 at *
  have hlab := labels_any X a2 a3 cc2 c3' L w3 hA3 hL4
  obtain ⟨c0, c1, c2, c3, c4, c5, c6, c7⟩ := hB3.cells8
  rcases give_cases X L with ⟨M, hP, hrx, hrl, hperm, hrm⟩ | ⟨n, hP, hn⟩
  case inr =>
    rw [hP] at hlab
    simp only [rCells] at hlab
    have HLAB := Lib.hid hlab
    clear hlab hP
    rcases hn with rfl | rfl
    all_goals
      go_wp2_with (first
        | (go_at_call 8; refine HLAB.out.mono ?_; rintro e w4 ⟨p, q, rfl, hp, hb4⟩)
        | (go_at_call 15; refine (alive_any _).mono ?_; rintro e w5 ⟨rfl, hb5⟩))
      go_ret
      exact ⟨rfl, bthen hbw (bthen hb4 hb5)⟩
  case inl =>
    rw [hP] at hlab
    simp only [rCells] at hlab
    have HLAB := Lib.hid hlab
    clear hlab hP
    go_upto_region 5 with (go_at_call 8; refine HLAB.out.mono ?_; rintro e w4 ⟨p, q, rfl, hp, hb4⟩)
    obtain ⟨g1, g2, g3, g4⟩ := rul_labs hrx
    have hA4 := hA3.call hb4
    have hL5 := hL4.call hb4
    have hB4 := hB3.call hb4
    have hbw4 := bthen hbw hb4
    have hL8 := (rightC_okAt hrl).1
    have hdK : Dis (baseL X ++ restL L (baseL X)) := ((rightC_iff M).1 hrm).2.2.dis.perm hperm
    have hlen : M.length = (baseL X ++ restL L (baseL X)).length := hperm.length_eq
    have hget : ∀ i (hi : i < M.length), getL (baseL X ++ restL L (baseL X)) M[i].1 = M[i].2 := fun i hi => getL_mem hdK (hperm.subset (List.getElem_mem hi))
    have hsN : ∀ l ∈ X.labels, l.1.size ≤ maxLen ∧ l.2.size ≤ maxLen := hA4.1.2.2.1
    have hsL : ∀ l ∈ L, l.1.size ≤ maxLen ∧ l.2.size ≤ maxLen := hL5.2.2.1
    have hsM : ∀ l ∈ M, l.1.size ≤ maxLen ∧ l.2.size ≤ maxLen := hp.2.2.1
    have hx := hA4.2.1
    have hdN : Dis X.labels := ((rightC_iff _).1 g1).2.2.dis
    have hdL : Dis L := ((rightC_iff _).1 hrl).2.2.dis
    have hRM := fun W (hW : Below w4.heap.size w4 W) => rRight_any p q M W (hp.call hW)
    rw [hrm] at hRM
    have hlx := hA4.1.1
    have hcx := hA4.1.2.1
    have hll := hL5.1
    have hcl := hL5.2.1
    have hlm := hp.1
    have hcm := hp.2.1
    unfold maxLen at hcx hcl hcm
    have HN1 := Lib.hid (fun W (hW : Below w4.heap.size w4 W) => (hA4.1.call hW).2.2.2)
    have HL1 := Lib.hid (fun W (hW : Below w4.heap.size w4 W) => (hL5.call hW).2.2.2)
    have HM1 := Lib.hid (fun W (hW : Below w4.heap.size w4 W) => (hp.call hW).2.2.2)
    have HRM := Lib.hid hRM
    have HGET := Lib.hid hget
    have HSN := Lib.hid hsN
    have HSL := Lib.hid hsL
    have HSM := Lib.hid hsM
    have HDN := Lib.hid hdN
    have HDL := Lib.hid hdL
    have HX := Lib.hid hx
    have HQ := Lib.hid hbw4
    have HNA := Lib.hid g2
    have HLEN := Lib.hid hlen
    have H4 := Lib.hid g3
    have H8 := Lib.hid hL8
    clear hA3 hL4 hB3 hb4 hbw hA4 hL5 hdK hget hsN hsL hsM hx hdN hdL hRM hrm hrl hrx g1 g2 g3 g4 hperm hbw4 HLAB hlen hp hL8
    obtain ⟨d0, d1, d2, d3, d4, d5, d6, d7⟩ := hB4.cells8
    have hmm := @run_makeMap Try.prog
    have hBm := hB4.alloc (.map #[] 0)
    obtain ⟨k0, k1, k2, k3, k4, k5, k6, k7⟩ := hBm.cells8
    go_upto_region 6 with (refine wpList_putS _ rfl _ _ _ (.inr rfl) w4.heap.size [] (aName, X.name) rfl (MapIs.made w4) (by simp) rfl rfl rfl (by show 5 ≤ maxLen; unfold maxLen; omega) HX.out ?_; intro w5 hm5 hg5)
    have hb5 : Below w4.heap.size w4 w5 := ((Below.refl w4.heap.size w4).alloc (Nat.le_refl _) (.map #[] 0)).grown hg5 (by simp) (fun k hk => by cases hk; exact Nat.le_refl _)
    have hB5 := hB4.call hb5
    have hB5' := hB5
    obtain ⟨e0, e1, e2, e3, e4, e5, e6, e7⟩ := hB5.cells8
    clear d0 d1 d2 d3 d4 d5 d6 d7 k0 k1 k2 k3 k4 k5 k6 k7 hBm hmm hg5 c0 c1 c2 c3 c4 c5 c6 c7 hB4 hB5' hB5
    have hm5 : MapIs w5 w4.heap.size ((aName, X.name) :: X.labels.take 0) := hm5
    obtain ⟨mb, hmb⟩ : ∃ mb, w4.heap.size = mb := ⟨_, rfl⟩
    have HMB : Hid (w4.heap.size = mb) := Lib.hid hmb
    have HMB3 : Hid (∀ W, Below mb w4 W → mb ≤ W.heap.size) := Lib.hid (fun W hW => by rw [← hmb]; exact hW.size)
    rw [hmb] at hm5 hb5 ⊢
    clear hmb
    go_wp2_with fail
    go_loopg [49] X.labels.length (fun gg kv wr => ∃ k : Nat, k + gg = X.labels.length ∧ kv = .int .i64 k ∧ MapIs wr mb ((aName, X.name) :: X.labels.take k) ∧ Below mb w4 wr)
    case atStart => exact ⟨0, by omega, rfl, hm5, hb5⟩
    case round =>
      obtain ⟨k, hkg, rfl, hm, hbr⟩ := hrel
      clear hm5 hb5 e0 e1 e2 e3 e4 e5 e6 e7
      cases gk with
      | zero =>
        obtain rfl : k = X.labels.length := by omega
        rw [List.take_of_length_le (Nat.le_refl _)] at hm
        have hm : MapIs wr mb (baseL X ++ restL (L.take 0) (baseL X)) := by
          rw [List.take_zero]; show MapIs wr mb (baseL X ++ []); rw [List.append_nil]; exact hm
        go_wp2_with fail
        go_loopg [61] L.length (fun gg kv wr => ∃ k : Nat, k + gg = L.length ∧ kv = .int .i64 k ∧ MapIs wr mb (baseL X ++ restL (L.take k) (baseL X)) ∧ Below mb w4 wr)
        case atStart => exact ⟨0, by omega, rfl, hm, hbr⟩
        case round =>
          clear hm hbr hkg
          obtain ⟨k, hkg, rfl, hm, hbr⟩ := hrel
          cases gk with
          | zero =>
            obtain rfl : k = L.length := by omega
            rw [List.take_of_length_le (Nat.le_refl _)] at hm
            go_wp2_with fail
            go_loopg [82] M.length (fun gg kv wr => ∃ k : Nat, k + gg = M.length ∧ kv = .int .i64 k ∧ MapIs wr mb (baseL X ++ restL L (baseL X)) ∧ Below mb w4 wr)
            case atStart => exact ⟨0, by omega, rfl, hm, hbr⟩
            case round =>
              clear hm hbr hkg
              obtain ⟨k, hkg, rfl, hm, hbr⟩ := hrel
              cases gk with
              | zero =>
                obtain rfl : k = M.length := by omega
                have hml := fun W (hW : Below wr.heap.size wr W) ty => (hm.call hW).len ty
                rw [← HLEN.out] at hml
                have hrr := HRM.out wr (by rw [HMB.out]; exact hbr)
                have HML := Lib.hid hml
                have HBR := Lib.hid hbr
                clear hm hml hrr hbr
                go_wp2_with (first
                  | (go_at_call 15; refine (alive_any _).mono ?_; rintro e w6 ⟨rfl, hb6⟩; have hml := HML.out _ hb6)
                  | (go_at_call 16; refine (HRM.out _ (by rw [HMB.out]; exact HBR.out.trans (hb6.mono (HMB3.out _ HBR.out)))).mono ?_; rintro e w7 ⟨rfl, hb7⟩))
                go_ret
                exact ⟨rfl, bthen (bthen HQ.out (by rw [HMB.out]; exact HBR.out)) (bthen hb6 hb7)⟩
              | succ gg =>
                have hkl : k < M.length := by omega
                obtain ⟨b1, o1, rfl, hc1, hc2⟩ : ∃ b off, p = some ⟨b, off, none⟩ ∧ wr.cell? ⟨b, off + k * 2, none⟩ = some (.string M[k].1) ∧ wr.cell? ⟨b, off + k * 2 + 1, none⟩ = some (.string M[k].2) := by
                  rcases HM1.out wr (by rw [HMB.out]; exact hbr) with h | ⟨b, off, e, _, hc⟩
                  · rw [h] at hkl; simp at hkl
                  · exact ⟨b, off, e, hc k hkl⟩

                have hbn := (Below.refl wr.heap.size wr).alloc (Nat.le_refl _) (.cells #[.string M[k].1, .string M[k].2] 37)
                have hm6 := hm.call hbn
                have hlk := hm6.look1 M[k].1 (HSM.out _ (List.getElem_mem hkl)).1
                rw [HGET.out k hkl] at hlk
                have hb6 := hbr.trans (hbn.mono (HMB3.out _ hbr))
                have HM6 := Lib.hid hm6
                have HB6 := Lib.hid hb6
                clear hm hm6 hb6 hbn
                generalize M[k] = Z at *
                have hZ := Blk.new wr 37 #[.string Z.1, .string Z.2]
                have z0 := hZ.cell 0
                have z1 := hZ.cell 1
                go_wp2_with fail
                go_roundg gg
                case measure => omega
                case rel => exact ⟨k + 1, by omega, by go_num, HM6.out, HB6.out⟩
          | succ gg =>
            have hkl : k < L.length := by omega
            obtain ⟨b1, o1, rfl, hc1, hc2⟩ : ∃ b off, a3 = some ⟨b, off, none⟩ ∧ wr.cell? ⟨b, off + k * 2, none⟩ = some (.string L[k].1) ∧ wr.cell? ⟨b, off + k * 2 + 1, none⟩ = some (.string L[k].2) := by
              rcases HL1.out wr (by rw [HMB.out]; exact hbr) with h | ⟨b, off, e, _, hc⟩
              · rw [h] at hkl; simp at hkl
              · exact ⟨b, off, e, hc k hkl⟩

            have hbn := (Below.refl wr.heap.size wr).alloc (Nat.le_refl _) (.cells #[.string L[k].1, .string L[k].2] 37)
            have hm6 := hm.call hbn
            have hs1 := (HSL.out _ (List.getElem_mem hkl)).1
            have hs2 := (HSL.out _ (List.getElem_mem hkl)).2
            have hlk := hm6.look2 L[k].1 hs1
            rw [rest_has HDL.out k hkl] at hlk
            have hno := rest_has (bs := baseL X) HDL.out k hkl
            have htk := restL_take L (baseL X) k hkl
            have hb6 := hbr.trans (hbn.mono (HMB3.out _ hbr))
            have hKl : (baseL X ++ restL (L.take k) (baseL X)).length ≤ 1000 := by
              have := restL_len (L.take k) (baseL X)
              have h4 := H4.out
              have h8 := H8.out
              simp only [baseL, List.length_append, List.length_cons, List.length_take] at this ⊢
              omega
            have HTK := Lib.hid htk
            have HNO := Lib.hid hno
            have HM6 := Lib.hid hm6
            have HB6 := Lib.hid hb6
            have HS1 := Lib.hid hs1
            have HS2 := Lib.hid hs2
            have HKL := Lib.hid hKl
            clear hm hm6 hb6 hbn htk hno hs1 hs2 hKl
            obtain ⟨gv, hgv⟩ : ∃ gv, getL (baseL X ++ restL (L.take k) (baseL X)) L[k].1 = gv := ⟨_, rfl⟩
            rw [hgv] at hlk
            clear hgv
            generalize L[k] = Z at *
            have hZ := Blk.new wr 37 #[.string Z.1, .string Z.2]
            have z0 := hZ.cell 0
            have z1 := hZ.cell 1
            cases hq : hasN (baseL X) Z.1 with
            | true =>
              rw [hq] at hlk
              have ht2 : restL (L.take (k + 1)) (baseL X) = restL (L.take k) (baseL X) := by rw [HTK.out, hq]; simp
              have HT2 := Lib.hid ht2
              clear hq ht2
              go_wp2_with fail
              go_roundg gg
              case measure => omega
              case rel => exact ⟨k + 1, by omega, by go_num, by rw [HT2.out]; exact HM6.out, HB6.out⟩
            | false =>
              rw [hq] at hlk
              have ht2 : baseL X ++ restL (L.take (k + 1)) (baseL X) = (baseL X ++ restL (L.take k) (baseL X)) ++ [Z] := by rw [HTK.out, hq, List.append_assoc]; rfl
              have HT2 := Lib.hid ht2
              have hn2 := HNO.out.trans hq
              have HN2 := Lib.hid hn2
              clear hq ht2 hn2
              go_wp2_with (refine wpList_putS _ rfl _ _ _ (.inl rfl) mb _ Z rfl HM6.out HKL.out rfl rfl HN2.out HS1.out HS2.out ?_; intro w6 hm7 hg6)
              go_roundg gg
              case measure => omega
              case rel => exact ⟨k + 1, by omega, by go_num, by rw [HT2.out]; exact hm7, HB6.out.grown hg6 (HMB3.out _ HB6.out) (fun k hk => by cases hk; exact Nat.le_refl _)⟩
      | succ gg =>
        have hkl : k < X.labels.length := by omega
        obtain ⟨b1, o1, rfl, hc1, hc2⟩ : ∃ b off, a2 = some ⟨b, off, none⟩ ∧ wr.cell? ⟨b, off + k * 2, none⟩ = some (.string X.labels[k].1) ∧ wr.cell? ⟨b, off + k * 2 + 1, none⟩ = some (.string X.labels[k].2) := by
          rcases HN1.out wr (by rw [HMB.out]; exact hbr) with h | ⟨b, off, e, _, hc⟩
          · rw [h] at hkl; simp at hkl
          · exact ⟨b, off, e, hc k hkl⟩

        have hbn := (Below.refl wr.heap.size wr).alloc (Nat.le_refl _) (.cells #[.string X.labels[k].1, .string X.labels[k].2] 37)
        have hm6 := hm.call hbn
        have hs1 := (HSN.out _ (List.getElem_mem hkl)).1
        have hs2 := (HSN.out _ (List.getElem_mem hkl)).2
        have hno : hasN ((aName, X.name) :: X.labels.take k) X.labels[k].1 = false := by
          rw [hasN_cons, dis_has HDN.out k hkl, Bool.or_false, decide_eq_false_iff_not]
          intro e
          have e : aName = X.labels[k].1 := e
          have := HNA.out
          rw [(hasN_iff X.labels aName).2 ⟨_, List.getElem_mem hkl, e.symm⟩] at this
          cases this
        have htk : ((aName, X.name) :: X.labels.take k) ++ [X.labels[k]] = (aName, X.name) :: X.labels.take (k + 1) := by
          rw [List.take_succ_eq_append_getElem hkl]; rfl
        have hb6 := hbr.trans (hbn.mono (HMB3.out _ hbr))
        have hKl : ((aName, X.name) :: X.labels.take k).length ≤ 1000 := by
          have h4 := H4.out
          simp only [List.length_cons, List.length_take]
          omega
        have HTK := Lib.hid htk
        have HNO := Lib.hid hno
        have HM6 := Lib.hid hm6
        have HB6 := Lib.hid hb6
        have HS1 := Lib.hid hs1
        have HS2 := Lib.hid hs2
        have HKL := Lib.hid hKl
        clear hm hm6 hb6 hbn htk hno hs1 hs2 hKl
        generalize X.labels[k] = Z at *
        have hZ := Blk.new wr 37 #[.string Z.1, .string Z.2]
        have z0 := hZ.cell 0
        have z1 := hZ.cell 1
        go_wp2_with (refine wpList_putS _ rfl _ _ _ (.inl rfl) mb _ Z rfl HM6.out HKL.out rfl rfl HNO.out HS1.out HS2.out ?_; intro w6 hm7 hg6)
        go_roundg gg
        case measure => omega
        case rel => exact ⟨k + 1, by omega, by go_num, by rw [← HTK.out]; exact hm7, HB6.out.grown hg6 (HMB3.out _ HB6.out) (fun k hk => by cases hk; exact Nat.le_refl _)⟩
end Go.Proofs.Ytjigdmmlgddgpab
