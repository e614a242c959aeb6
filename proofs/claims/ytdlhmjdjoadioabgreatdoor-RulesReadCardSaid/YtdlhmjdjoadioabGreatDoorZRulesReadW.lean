/- RulesRead: for every rule and every row of words: the rule's words, and what the words are read as, is as the document says, or refused: the law's walk. -/
import Derived.Test.YtdlhmjdjoadioabGreatDoorZRulG
import Derived.Test.YtdlhmjdjoadioabGreatDoorMg9
import Derived.Test.YtdlhmjdjoadioabGreatDoorZRulP
import Derived.Test.YtdlhmjdjoadioabGreatDoorMg15
import Derived.Test.YtdlhmjdjoadioabGreatDoorZRulR
import Derived.Test.YtdlhmjdjoadioabGreatDoorMg16
import Derived.Test.YtdlhmjdjoadioabGreatDoorZRulV
import Derived.Test.YtdlhmjdjoadioabGreatDoorMg12
namespace Go.Proofs.YtdlhmjdjoadioabGreatDoor
open Go.RowKit

theorem strs_setO {w : World} {a : Option Addr} {c : Nat} {ss : List ByteArray} {p : Addr} (h : HasStrs w a c ss) (hne : ∀ b o s, a = some ⟨b, o, s⟩ → b ≠ p.block) (v : Value) : HasStrs (w.setCell p v) a c ss := by
  obtain ⟨h1, h2, h3, h4⟩ := h
  refine ⟨h1, h2, h3, h4.imp id ?_⟩
  rintro ⟨b, off, rfl, hb, hc⟩
  refine ⟨b, off, rfl, by simpa [World.setCell] using hb, fun i hi => ?_⟩
  rw [cell_setO _ _ _ _ _ (hne _ _ _ rfl)]
  exact hc i hi
theorem strs_set8 {w : World} {a : Option Addr} {c : Nat} {ss : List ByteArray} {g : Nat} (h : HasStrs w a c ss) (hne : ∀ b o s, a = some ⟨b, o, s⟩ → b ≠ g) (v0 v1 v2 v3 v4 v5 v6 v7 : Value) :
    HasStrs ((((((((w.setCell ⟨g, 0, none⟩ v0).setCell ⟨g, 1, none⟩ v1).setCell ⟨g, 2, none⟩ v2).setCell ⟨g, 3, none⟩ v3).setCell ⟨g, 4, none⟩ v4).setCell ⟨g, 5, none⟩ v5).setCell ⟨g, 6, none⟩ v6).setCell ⟨g, 7, none⟩ v7) a c ss :=
  strs_setO (strs_setO (strs_setO (strs_setO (strs_setO (strs_setO (strs_setO (strs_setO h hne v0) hne v1) hne v2) hne v3) hne v4) hne v5) hne v6) hne v7
set_option maxHeartbeats 12800000 in
set_option maxRecDepth 100000 in
theorem rulesRead_walk {w : World} (r : Rul) (a : Option Addr) (c : Nat) (h : RulAt w r a c) (a1 : Option Addr) (len1 cap1 : Nat) (ss : List ByteArray) (w1 : ss.length = len1 ∧ HasStrs w a1 cap1 ss) (hw : RW w) :
    Calls Tryz.prog 3 #[.agg (rCells r a c), .slice a1 len1 cap1] w (BoolB true w) := by
  obtain ⟨rfl, h1⟩ := w1
  have hb := (Below.refl w.heap.size w).alloc (Nat.le_refl _) (.cells (rCells r a c) 24)
  have hB := Blk.new w 24 (rCells r a c)
  have hC := cutR_any r a c _ (h.call hb)
  have hTX := fun W (hW : Below (w.alloc (.cells (rCells r a c) 24)).heap.size (w.alloc (.cells (rCells r a c) 24)) W) => texts_any a1 cap1 ss W ((h1.call hb).call hW)
  obtain ⟨X, hX⟩ : ∃ X, cutR r = X := ⟨_, rfl⟩
  obtain ⟨L, hL⟩ : ∃ X, textsL ss = X := ⟨_, rfl⟩
  have hxn : X.name.size ≤ 70 := by rw [← hX]; exact cut70_size _
  have hxm : X.metric.size ≤ 70 := by rw [← hX]; exact cut70_size _
  have hLs : ∀ s ∈ L, s.size ≤ 2000 := fun s hs => by have := textsL_size ss s (by rw [hL]; exact hs); omega
  unfold CutP at hC
  unfold TextsPost at hTX
  rw [hX] at hC
  rw [hL] at hTX
  have hz : (w.alloc (.cells (rCells r a c) 24)).heap.size = w.heap.size + 1 := by simp
  have HC := Lib.hid hC
  have HF := Lib.hid hTX
  have HBL := Lib.hid hb
  have HZ := Lib.hid hz
  have HWW := Lib.hid (fun W (hW : Below w.heap.size w W) => hw.call hW)
  have HXN := Lib.hid hxn
  have HXM := Lib.hid hxm
  have HLS := Lib.hid hLs
  clear hX hL hC hb h h1 hz hTX hw hxn hxm hLs
  simp only [rCells] at *
  go_enter Tryz.func3, Tryz.ntmps3
  go_upto_region 1 with fail
  generalize w.alloc (.cells #[.string r.name, .string r.metric, .int .i64 r.how, .int .i64 r.limit, .int .i64 r.fr, .int .i64 r.keep, .int .i64 r.tries, .slice a r.labels.length c] 24) = wx at *
  obtain ⟨g, hg⟩ : ∃ g, w.heap.size = g := ⟨_, rfl⟩
  have HG : Hid (w.heap.size = g) := Lib.hid hg
  rw [hg] at hB ⊢
  clear hg
  obtain ⟨c0, c1, c2, c3, c4, c5, c6, c7⟩ := hB.cells8
  go_upto_region 2 with (first
    | (go_at_call 5; refine HC.out.mono ?_; rintro e wb ⟨a2, cc2, rfl, hA, hfr, hb2⟩)
    | (go_at_call 6; refine (HF.out _ hb2).mono ?_; rintro e wc ⟨a3, c3', rfl, hL3, hfr3, hb3⟩; have hb3' := bthen hb2 hb3; have hB2 := hB.call hb3'; obtain ⟨q0, q1, q2, q3, q4, q5, q6, q7⟩ := hB2.cells8; have f0 := hB2.frozen 0; have f1 := hB2.frozen 1; have f2 := hB2.frozen 2; have f3 := hB2.frozen 3; have f4 := hB2.frozen 4; have f5 := hB2.frozen 5; have f6 := hB2.frozen 6; have f7 := hB2.frozen 7))
  have hgl := hB.lt
  have hsz := hb2.size
  have hne : ∀ b o s, a2 = some ⟨b, o, s⟩ → b ≠ g := fun b o s e h => by have := hfr b o s e; omega
  have hne3 : ∀ b o s, a3 = some ⟨b, o, s⟩ → b ≠ g := fun b o s e h => by have := hfr3 b o s e; omega
  have hbw := below_set8 (bthen HBL.out hb3') (Nat.le_of_eq HG.out) (.string X.name) (.string X.metric) (.int .i64 X.how) (.int .i64 X.limit) (.int .i64 X.fr) (.int .i64 X.keep) (.int .i64 X.tries) (.slice a2 X.labels.length cc2)
  have hB3 := hB2.set8 (.string X.name) (.string X.metric) (.int .i64 X.how) (.int .i64 X.limit) (.int .i64 X.fr) (.int .i64 X.keep) (.int .i64 X.tries) (.slice a2 X.labels.length cc2)
  have hA3 : RulAt ((((((((wc.setCell ⟨g, 0, none⟩ (.string X.name)).setCell ⟨g, 1, none⟩ (.string X.metric)).setCell ⟨g, 2, none⟩ (.int .i64 X.how)).setCell ⟨g, 3, none⟩ (.int .i64 X.limit)).setCell ⟨g, 4, none⟩ (.int .i64 X.fr)).setCell ⟨g, 5, none⟩ (.int .i64 X.keep)).setCell ⟨g, 6, none⟩ (.int .i64 X.tries)).setCell ⟨g, 7, none⟩ (.slice a2 X.labels.length cc2)) X a2 cc2 := ⟨setO8 (hA.call hb3).1 hne (.string X.name) (.string X.metric) (.int .i64 X.how) (.int .i64 X.limit) (.int .i64 X.fr) (.int .i64 X.keep) (.int .i64 X.tries) (.slice a2 X.labels.length cc2), hA.2⟩
  have hL4 : HasStrs ((((((((wc.setCell ⟨g, 0, none⟩ (.string X.name)).setCell ⟨g, 1, none⟩ (.string X.metric)).setCell ⟨g, 2, none⟩ (.int .i64 X.how)).setCell ⟨g, 3, none⟩ (.int .i64 X.limit)).setCell ⟨g, 4, none⟩ (.int .i64 X.fr)).setCell ⟨g, 5, none⟩ (.int .i64 X.keep)).setCell ⟨g, 6, none⟩ (.int .i64 X.tries)).setCell ⟨g, 7, none⟩ (.slice a2 X.labels.length cc2)) a3 c3' L := strs_set8 hL3 hne3 (.string X.name) (.string X.metric) (.int .i64 X.how) (.int .i64 X.limit) (.int .i64 X.fr) (.int .i64 X.keep) (.int .i64 X.tries) (.slice a2 X.labels.length cc2)
  clear hA hB hB2 hb2 hb3 hb3' hL3 hfr hfr3 q0 q1 q2 q3 q4 q5 q6 q7 f0 f1 f2 f3 f4 f5 f6 f7 c0 c1 c2 c3 c4 c5 c6 c7 hgl hsz hne hne3 HC HF HBL HZ
  generalize ((((((((wc.setCell ⟨g, 0, none⟩ (.string X.name)).setCell ⟨g, 1, none⟩ (.string X.metric)).setCell ⟨g, 2, none⟩ (.int .i64 X.how)).setCell ⟨g, 3, none⟩ (.int .i64 X.limit)).setCell ⟨g, 4, none⟩ (.int .i64 X.fr)).setCell ⟨g, 5, none⟩ (.int .i64 X.keep)).setCell ⟨g, 6, none⟩ (.int .i64 X.tries)).setCell ⟨g, 7, none⟩ (.slice a2 X.labels.length cc2)) = w3 at *
  have hw3 := HWW.out _ hbw
  have hwd := words_any X a2 cc2 w3 hA3 hw3.1
  -- the second half, for any world behind
  have hlate : ∀ W, Below w3.heap.size w3 W → HasStrs W a3 c3' L ∧ RW W := fun W hW => ⟨hL4.call hW, hw3.call hW⟩
  have hrd := fun W (hW : Below w3.heap.size w3 W) => read_any a3 c3' L W (hlate W hW).1 (hlate W hW).2 HLS.out
  obtain ⟨c0, c1, c2, c3, c4, c5, c6, c7⟩ := hB3.cells8
  have HQ := Lib.hid hbw
  have HRD := Lib.hid hrd
  have HLT := Lib.hid hlate
  clear hbw hrd hL4
  have hmeet : ∃ n : Int, ∃ ws : List ByteArray, wordsP X = (ws, n) ∧ ((n = 1 ∧ rulC X = false) ∨ (n = 0 ∧ rulC X = true ∧ ws = wordsL X)) := by
    cases hr : rulC X with
    | false => exact ⟨1, [], by rw [wordsP, if_neg (by rw [hr]; simp)], .inl ⟨rfl, rfl⟩⟩
    | true => exact ⟨0, wordsL X, by rw [wordsP, if_pos hr], .inr ⟨rfl, rfl, rfl⟩⟩
  obtain ⟨n, ws, hP, hcase⟩ := hmeet
  rw [hP] at hwd
  simp only [rCells] at hwd
  have HWD := Lib.hid hwd
  have HPW := Lib.hid hP
  have hrrd := fun W (hW : Below w3.heap.size w3 W) => rRead_any a3 c3' L W (hlate W hW).1 (hlate W hW).2.1 HLS.out
  clear hwd hP
  go_upto_region 3 with (go_at_call 7; refine HWD.out.mono ?_; rintro e w4 ⟨p, q, rfl, hp, hb4⟩)
  clear c0 c1 c2 c3 c4 c5 c6 c7
  have hrd := HRD.out w4 hb4
  rcases readP_cases L with ⟨Z, hIs, e⟩ | ⟨e, hno⟩
  · rw [e] at hrd hrrd
    rw [show decide (((Z, (0 : Int)) : Rul × Int).2 = 0) = true from rfl] at hrrd
    simp only at hrd hrrd
    have hlk := fun W p5 p7 q5 q7 (h5 : RulAt W Z p5 q5) (h7 : RulAt W Z p7 q7) => rrLike_any Z Z p5 p7 q5 q7 W h5 h7
    rw [likeR_refl] at hlk
    simp only [rCells] at hrd hrrd hlk
    have HRDD := Lib.hid hrd
    have HRRD := Lib.hid hrrd
    have HLK := Lib.hid hlk
    clear hrd hrrd hlk e hIs HRD HWD HLS
    focus
      go_upto_region 7 with (first
        | (go_at_call 8; refine HRDD.out.mono ?_; rintro e w5 ⟨p5, q5, rfl, hA5, hb5⟩
           have hk5 := Blk.new w5 24 #[.string Z.name, .string Z.metric, .int .i64 Z.how, .int .i64 Z.limit, .int .i64 Z.fr, .int .i64 Z.keep, .int .i64 Z.tries, .slice p5 Z.labels.length q5]
           have hb6 := bthen hb5 ((Below.refl w5.heap.size w5).alloc (Nat.le_refl _) (.cells #[.string Z.name, .string Z.metric, .int .i64 Z.how, .int .i64 Z.limit, .int .i64 Z.fr, .int .i64 Z.keep, .int .i64 Z.tries, .slice p5 Z.labels.length q5] 24))
           have hA5' := hA5.call ((Below.refl w5.heap.size w5).alloc (Nat.le_refl _) (.cells #[.string Z.name, .string Z.metric, .int .i64 Z.how, .int .i64 Z.limit, .int .i64 Z.fr, .int .i64 Z.keep, .int .i64 Z.tries, .slice p5 Z.labels.length q5] 24)))
        | (go_at_call 9; refine (HRRD.out _ (bthen hb4 hb6)).mono ?_; rintro e w7 ⟨p7, q7, rfl, hA7, hb7⟩
           have hk7 := (hk5.call hb7).call ((Below.refl w7.heap.size w7).alloc (Nat.le_refl _) (.cells #[.string Z.name, .string Z.metric, .int .i64 Z.how, .int .i64 Z.limit, .int .i64 Z.fr, .int .i64 Z.keep, .int .i64 Z.tries, .slice p7 Z.labels.length q7] 24))
           obtain ⟨x0, x1, x2, x3, x4, x5, x6, x7⟩ := hk7.cells8
           obtain ⟨y0, y1, y2, y3, y4, y5, y6, y7⟩ := (Blk.new w7 24 #[.string Z.name, .string Z.metric, .int .i64 Z.how, .int .i64 Z.limit, .int .i64 Z.fr, .int .i64 Z.keep, .int .i64 Z.tries, .slice p7 Z.labels.length q7]).cells8
           have hb8 := bthen (bthen hb6 hb7) ((Below.refl w7.heap.size w7).alloc (Nat.le_refl _) (.cells #[.string Z.name, .string Z.metric, .int .i64 Z.how, .int .i64 Z.limit, .int .i64 Z.fr, .int .i64 Z.keep, .int .i64 Z.tries, .slice p7 Z.labels.length q7] 24))
           have hA6 := (hA5'.call hb7).call ((Below.refl w7.heap.size w7).alloc (Nat.le_refl _) (.cells #[.string Z.name, .string Z.metric, .int .i64 Z.how, .int .i64 Z.limit, .int .i64 Z.fr, .int .i64 Z.keep, .int .i64 Z.tries, .slice p7 Z.labels.length q7] 24))
           have hA8 := hA7.call ((Below.refl w7.heap.size w7).alloc (Nat.le_refl _) (.cells #[.string Z.name, .string Z.metric, .int .i64 Z.how, .int .i64 Z.limit, .int .i64 Z.fr, .int .i64 Z.keep, .int .i64 Z.tries, .slice p7 Z.labels.length q7] 24)))
        | (go_at_call 10; refine (HLK.out _ p5 p7 q5 q7 hA6 hA8).mono ?_; rintro e w8 ⟨rfl, hb9⟩)
        | (go_at_call 11; refine (alive_any _).mono ?_; rintro e w9 ⟨rfl, hb10⟩))
      have hbz := bthen (bthen hb8 hb9) hb10
      clear hk5 hk7 x0 x1 x2 x3 x4 x5 x6 x7 y0 y1 y2 y3 y4 y5 y6 y7 hA5 hA5' hA6 hA7 hA8 hb5 hb6 hb7 hb8 hb9 hb10 HRDD HRRD HLK
      generalize w9 = W9 at *
      have hb11 := bthen hb4 hbz
      have hp9 := hp.call hbz
      obtain ⟨c0, c1, c2, c3, c4, c5, c6, c7⟩ := (hB3.call hb11).cells8
      have hA9 := hA3.call hb11
      have hw9 := (HLT.out W9 hb11).2
      have hrr := rrRight_any X a2 cc2 W9 hA9
      simp only [rCells] at hrr
      rcases hcase with ⟨rfl, hr⟩ | ⟨rfl, hr, rfl⟩
      · rw [hr] at hrr
        have HRR := Lib.hid hrr
        obtain rfl : ws = [] := by
          have := HPW.out
          rw [wordsP, if_neg (by rw [hr]; simp)] at this
          exact ((Prod.mk.inj this).1).symm
        have HBZ := Lib.hid (bthen HQ.out hb11)
        clear hrr hr hb11 hbz hp9 hA9 hw9 hp
        go_wp2_with (go_at_call 12; refine HRR.out.mono ?_; rintro e wa ⟨rfl, hba⟩)
        go_ret
        exact ⟨rfl, bthen HBZ.out hba⟩
      · rw [hr] at hrr
        have hrw := fun W (hW : Below W9.heap.size W9 W) => rWords_any X a2 cc2 W (hA9.call hW) hr (hw9.call hW).1
        simp only [rCells] at hrw
        have hsm := fun W p6 q6 (h9 : HasStrs W p6 q6 (wordsL X)) (h3 : HasStrs W p q (wordsL X)) => same_any p p6 q q6 (wordsL X) (wordsL X) W h3 h9
        rw [decide_eq_true (rfl : wordsL X = wordsL X)] at hsm
        have HRR := Lib.hid hrr
        have HRW := Lib.hid hrw
        have HSM := Lib.hid hsm
        have HCC := Lib.hid (fun W (hW : Below W9.heap.size W9 W) => ((hB3.call hb11).call hW).cells8)
        have HBZ := Lib.hid (bthen HQ.out hb11)
        have HP9 := Lib.hid hp9
        clear hrr hrw hsm hr hb11 hbz hp9 hA9 hw9 hp
        obtain ⟨WL, hWL⟩ : ∃ WL, wordsL X = WL := ⟨_, rfl⟩
        rw [hWL] at HRW HSM HP9 ⊢
        clear hWL
        go_upto_region 9 with (go_at_call 12; refine HRR.out.mono ?_; rintro e wa ⟨rfl, hba⟩)
        clear c0 c1 c2 c3 c4 c5 c6 c7
        obtain ⟨c0, c1, c2, c3, c4, c5, c6, c7⟩ := HCC.out wa hba
        go_wp2_with (first
          | (go_at_call 14; refine (HRW.out _ hba).mono ?_; rintro e wb ⟨p6, q6, rfl, hp6, hbb⟩)
          | (go_at_call 13; refine (HSM.out _ p6 q6 hp6 (HP9.out.call (bthen hba hbb))).mono ?_; rintro e wc ⟨rfl, hbc⟩))
        go_ret
        exact ⟨rfl, bthen HBZ.out (bthen (bthen hba hbb) hbc)⟩
  · rw [e] at hrd hrrd
    rw [show decide (((zeroR, (6 : Int)) : Rul × Int).2 = 0) = false from rfl] at hrrd
    have hlk := fun W p5 q5 (h5 : RulAt W zeroR p5 q5) => rrLike_any zeroR zeroR p5 none q5 0 W h5 (zero_at W)
    rw [likeR_refl] at hlk
    have hz0 : rCells zeroR none 0 = #[.string ⟨#[]⟩, .string ⟨#[]⟩, .int .i64 0, .int .i64 0, .int .i64 0, .int .i64 0, .int .i64 0, .slice none 0 0] := rfl
    rw [hz0] at hlk
    clear hz0
    obtain ⟨Z, hZ⟩ : ∃ Z, zeroR = Z := ⟨_, rfl⟩
    simp only [hZ] at hrd hrrd hlk
    simp only [rCells] at hrd hrrd hlk
    have HRDD := Lib.hid hrd
    have HRRD := Lib.hid hrrd
    have HLK := Lib.hid hlk
    clear hrd hrrd hlk e hno hZ HRD HWD HLS
    focus
      go_upto_region 7 with (first
        | (go_at_call 8; refine HRDD.out.mono ?_; rintro e w5 ⟨p5, q5, rfl, hA5, hb5⟩
           have hk5 := Blk.new w5 24 #[.string Z.name, .string Z.metric, .int .i64 Z.how, .int .i64 Z.limit, .int .i64 Z.fr, .int .i64 Z.keep, .int .i64 Z.tries, .slice p5 Z.labels.length q5]
           have hb6 := bthen hb5 ((Below.refl w5.heap.size w5).alloc (Nat.le_refl _) (.cells #[.string Z.name, .string Z.metric, .int .i64 Z.how, .int .i64 Z.limit, .int .i64 Z.fr, .int .i64 Z.keep, .int .i64 Z.tries, .slice p5 Z.labels.length q5] 24))
           have hA5' := hA5.call ((Below.refl w5.heap.size w5).alloc (Nat.le_refl _) (.cells #[.string Z.name, .string Z.metric, .int .i64 Z.how, .int .i64 Z.limit, .int .i64 Z.fr, .int .i64 Z.keep, .int .i64 Z.tries, .slice p5 Z.labels.length q5] 24)))
        | (go_at_call 9; refine (HRRD.out _ (bthen hb4 hb6)).mono ?_; rintro e w7 ⟨p7, q7, rfl, hA7, hb7⟩
           have hk7 := (hk5.call hb7).call ((Below.refl w7.heap.size w7).alloc (Nat.le_refl _) (.cells #[.string Z.name, .string Z.metric, .int .i64 Z.how, .int .i64 Z.limit, .int .i64 Z.fr, .int .i64 Z.keep, .int .i64 Z.tries, .slice p7 Z.labels.length q7] 24))
           obtain ⟨x0, x1, x2, x3, x4, x5, x6, x7⟩ := hk7.cells8
           obtain ⟨y0, y1, y2, y3, y4, y5, y6, y7⟩ := (Blk.new w7 24 #[.string Z.name, .string Z.metric, .int .i64 Z.how, .int .i64 Z.limit, .int .i64 Z.fr, .int .i64 Z.keep, .int .i64 Z.tries, .slice p7 Z.labels.length q7]).cells8
           have hb8 := bthen (bthen hb6 hb7) ((Below.refl w7.heap.size w7).alloc (Nat.le_refl _) (.cells #[.string Z.name, .string Z.metric, .int .i64 Z.how, .int .i64 Z.limit, .int .i64 Z.fr, .int .i64 Z.keep, .int .i64 Z.tries, .slice p7 Z.labels.length q7] 24))
           have hA6 := (hA5'.call hb7).call ((Below.refl w7.heap.size w7).alloc (Nat.le_refl _) (.cells #[.string Z.name, .string Z.metric, .int .i64 Z.how, .int .i64 Z.limit, .int .i64 Z.fr, .int .i64 Z.keep, .int .i64 Z.tries, .slice p7 Z.labels.length q7] 24))
           have hA8 := hA7.call ((Below.refl w7.heap.size w7).alloc (Nat.le_refl _) (.cells #[.string Z.name, .string Z.metric, .int .i64 Z.how, .int .i64 Z.limit, .int .i64 Z.fr, .int .i64 Z.keep, .int .i64 Z.tries, .slice p7 Z.labels.length q7] 24)))
        | (go_at_call 10; refine (HLK.out _ p5 q5 hA6).mono ?_; rintro e w8 ⟨rfl, hb9⟩)
        | (go_at_call 11; refine (alive_any _).mono ?_; rintro e w9 ⟨rfl, hb10⟩))
      have hbz := bthen (bthen hb8 hb9) hb10
      clear hk5 hk7 x0 x1 x2 x3 x4 x5 x6 x7 y0 y1 y2 y3 y4 y5 y6 y7 hA5 hA5' hA6 hA7 hA8 hb5 hb6 hb7 hb8 hb9 hb10 HRDD HRRD HLK
      generalize w9 = W9 at *
      have hb11 := bthen hb4 hbz
      have hp9 := hp.call hbz
      obtain ⟨c0, c1, c2, c3, c4, c5, c6, c7⟩ := (hB3.call hb11).cells8
      have hA9 := hA3.call hb11
      have hw9 := (HLT.out W9 hb11).2
      have hrr := rrRight_any X a2 cc2 W9 hA9
      simp only [rCells] at hrr
      rcases hcase with ⟨rfl, hr⟩ | ⟨rfl, hr, rfl⟩
      · rw [hr] at hrr
        have HRR := Lib.hid hrr
        obtain rfl : ws = [] := by
          have := HPW.out
          rw [wordsP, if_neg (by rw [hr]; simp)] at this
          exact ((Prod.mk.inj this).1).symm
        have HBZ := Lib.hid (bthen HQ.out hb11)
        clear hrr hr hb11 hbz hp9 hA9 hw9 hp
        go_wp2_with (go_at_call 12; refine HRR.out.mono ?_; rintro e wa ⟨rfl, hba⟩)
        go_ret
        exact ⟨rfl, bthen HBZ.out hba⟩
      · rw [hr] at hrr
        have hrw := fun W (hW : Below W9.heap.size W9 W) => rWords_any X a2 cc2 W (hA9.call hW) hr (hw9.call hW).1
        simp only [rCells] at hrw
        have hsm := fun W p6 q6 (h9 : HasStrs W p6 q6 (wordsL X)) (h3 : HasStrs W p q (wordsL X)) => same_any p p6 q q6 (wordsL X) (wordsL X) W h3 h9
        rw [decide_eq_true (rfl : wordsL X = wordsL X)] at hsm
        have HRR := Lib.hid hrr
        have HRW := Lib.hid hrw
        have HSM := Lib.hid hsm
        have HCC := Lib.hid (fun W (hW : Below W9.heap.size W9 W) => ((hB3.call hb11).call hW).cells8)
        have HBZ := Lib.hid (bthen HQ.out hb11)
        have HP9 := Lib.hid hp9
        clear hrr hrw hsm hr hb11 hbz hp9 hA9 hw9 hp
        obtain ⟨WL, hWL⟩ : ∃ WL, wordsL X = WL := ⟨_, rfl⟩
        rw [hWL] at HRW HSM HP9 ⊢
        clear hWL
        go_upto_region 9 with (go_at_call 12; refine HRR.out.mono ?_; rintro e wa ⟨rfl, hba⟩)
        clear c0 c1 c2 c3 c4 c5 c6 c7
        obtain ⟨c0, c1, c2, c3, c4, c5, c6, c7⟩ := HCC.out wa hba
        go_wp2_with (first
          | (go_at_call 14; refine (HRW.out _ hba).mono ?_; rintro e wb ⟨p6, q6, rfl, hp6, hbb⟩)
          | (go_at_call 13; refine (HSM.out _ p6 q6 hp6 (HP9.out.call (bthen hba hbb))).mono ?_; rintro e wc ⟨rfl, hbc⟩))
        go_ret
        exact ⟨rfl, bthen HBZ.out (bthen (bthen hba hbb) hbc)⟩
end Go.Proofs.YtdlhmjdjoadioabGreatDoor
