/- RulesBack: for every rule and every row of words: what is written is read; what any words are read as, written, is these words: the law's walk. -/
import Derived.Test.YtdlhmjdjoadioabGreatDoorZRulG
import Derived.Test.YtdlhmjdjoadioabGreatDoorMg6
import Derived.Test.YtdlhmjdjoadioabGreatDoorZRulI
import Derived.Test.YtdlhmjdjoadioabGreatDoorZRulR
import Derived.Test.YtdlhmjdjoadioabGreatDoorZRulV
import Derived.Test.YtdlhmjdjoadioabGreatDoorZSameR
namespace Go.Proofs.YtdlhmjdjoadioabGreatDoor
open Go.RowKit

theorem dec_len10 : ∀ (k u : Nat), 1 ≤ k → u < 10 ^ k → (Lib.decDigits u).length ≤ k
  | 0, _, h, _ => absurd h (by omega)
  | 1, u, _, h => by
    rw [Lib.decDigits]
    split
    · simp
    · omega
  | k + 2, u, _, h => by
    rw [Lib.decDigits]
    split
    · simp
    · have := dec_len10 (k + 1) (u / 10) (by omega) (by rw [Nat.pow_succ] at h; omega)
      rw [List.length_append]
      simp only [List.length_cons, List.length_nil]
      omega
theorem itoa_small (n : Int) (h0 : -1099511627776 ≤ n) (h1 : n ≤ 1099511627776) : (itoaS n).size ≤ 20 := by
  have h : (itoaS n).size = (Lib.itoa n).length := by simp [itoaS, ByteArray.size]
  rw [h]
  unfold Lib.itoa
  split
  · have := dec_len10 14 n.natAbs (by omega) (by omega)
    simp only [List.length_cons]
    omega
  · have := dec_len10 14 n.toNat (by omega) (by omega)
    omega
theorem strs_setO {w : World} {a : Option Addr} {c : Nat} {ss : List ByteArray} {p : Addr} (h : HasStrs w a c ss) (hne : ∀ b o s, a = some ⟨b, o, s⟩ → b ≠ p.block) (v : Value) : HasStrs (w.setCell p v) a c ss := by
  obtain ⟨h1, h2, h3, h4⟩ := h
  refine ⟨h1, h2, h3, h4.imp id ?_⟩
  rintro ⟨b, off, rfl, hb, hc⟩
  refine ⟨b, off, rfl, by simpa [World.setCell] using hb, fun i hi => ?_⟩
  rw [cell_setO _ _ _ _ _ (hne _ _ _ rfl)]
  exact hc i hi
theorem strs_set8 {w : World} {a : Option Addr} {c : Nat} {ss : List ByteArray} {g : Nat} (h : HasStrs w a c ss) (hne : ∀ b o s, a = some ⟨b, o, s⟩ → b ≠ g) (v0 v1 v2 v3 v4 v5 v6 v7 : Value) :
    HasStrs ((((((((w.setCell ⟨g, 0, none⟩ v0).setCell ⟨g, 1, none⟩ v1).setCell ⟨g, 2, none⟩ v2).setCell ⟨g, 3, none⟩ v3).setCell ⟨g, 4, none⟩ v4).setCell ⟨g, 5, none⟩ v5).setCell ⟨g, 6, none⟩ v6).setCell ⟨g, 7, none⟩ v7) a c ss :=
  strs_setO (strs_setO (strs_setO (strs_setO (strs_setO (strs_setO (strs_setO (strs_setO h hne v0) hne v1) hne v2) hne v3) hne v4) hne v5) hne v6) hne v7
theorem words_size {r : Rul} (h : rulC r = true) (hn : r.name.size ≤ 70) (hm : r.metric.size ≤ 70) : ∀ s ∈ wordsL r, s.size ≤ 2000 := by
  obtain ⟨_, _, ⟨a1, a2⟩, ⟨a3, a4⟩, ⟨a5, a6⟩, ⟨a7, a8⟩, ⟨a9, a10⟩, a11⟩ := (rulC_iff r).1 h
  have hrl := ((rlabsC_iff _).1 a11).2.1
  intro s hs
  simp only [wordsL, List.mem_cons, List.not_mem_nil, or_false] at hs
  rcases hs with rfl | rfl | rfl | rfl | rfl | rfl | rfl | rfl
  · omega
  · omega
  · have : r.how = 1 ∨ r.how = 2 ∨ r.how = 3 ∨ r.how = 4 ∨ r.how = 5 := by omega
    rcases this with e | e | e | e | e <;> rw [e] <;> decide
  · have := itoa_small r.limit a3 a4; omega
  · have := itoa_small r.fr (by omega) a6; omega
  · have := itoa_small r.keep (by omega) a8; omega
  · have := itoa_small r.tries (by omega) (by omega); omega
  · have h1 : (textB r.labels).size = (textL r.labels).length := by simp [textB, ByteArray.size]
    have h2 := bodyT_le r.labels hrl r.labels.length
    rw [List.take_length] at h2
    rw [h1]
    unfold textL
    simp only [List.length_cons, List.length_append, List.length_nil]
    omega

set_option maxHeartbeats 12800000 in
set_option maxRecDepth 100000 in
theorem rulesBack_walk {w : World} (r : Rul) (a : Option Addr) (c : Nat) (h : RulAt w r a c) (a1 : Option Addr) (len1 cap1 : Nat) (ss : List ByteArray) (w1 : ss.length = len1 ∧ HasStrs w a1 cap1 ss) (hw : RW w) :
    Calls Tryz.prog 4 #[.agg (rCells r a c), .slice a1 len1 cap1] w (BoolB true w) := by
  obtain ⟨rfl, h1⟩ := w1
  have hb := (Below.refl w.heap.size w).alloc (Nat.le_refl _) (.cells (rCells r a c) 24)
  have hB := Blk.new w 24 (rCells r a c)
  have hC := cutR_any r a c _ (h.call hb)
  have hTX := fun W (hW : Below (w.alloc (.cells (rCells r a c) 24)).heap.size (w.alloc (.cells (rCells r a c) 24)) W) => texts_any a1 cap1 ss W ((h1.call hb).call hW)
  obtain ⟨X, hX⟩ : ∃ X, cutR r = X := ⟨_, rfl⟩
  obtain ⟨L, hL⟩ : ∃ X, textsL ss = X := ⟨_, rfl⟩
  have hxn : X.name.size ≤ 70 := by rw [← hX]; exact cut70_size _
  have hxm : X.metric.size ≤ 70 := by rw [← hX]; exact cut70_size _
  have hLs : ∀ s ∈ L, s.size ≤ 2000 := fun s hs => by have := textsL_size ss s (by rw [hL]; exact hs); omega
  unfold CutP at hC
  unfold TextsPost at hTX
  rw [hX] at hC
  rw [hL] at hTX
  have hz : (w.alloc (.cells (rCells r a c) 24)).heap.size = w.heap.size + 1 := by simp
  have HC := Lib.hid hC
  have HF := Lib.hid hTX
  have HBL := Lib.hid hb
  have HZ := Lib.hid hz
  have HWW := Lib.hid (fun W (hW : Below w.heap.size w W) => hw.call hW)
  have HXN := Lib.hid hxn
  have HXM := Lib.hid hxm
  have HLS := Lib.hid hLs
  clear hX hL hC hb h h1 hz hTX hw hxn hxm hLs
  simp only [rCells] at *
  go_enter Tryz.func4, Tryz.ntmps4
  go_upto_region 1 with fail
  generalize w.alloc (.cells #[.string r.name, .string r.metric, .int .i64 r.how, .int .i64 r.limit, .int .i64 r.fr, .int .i64 r.keep, .int .i64 r.tries, .slice a r.labels.length c] 24) = wx at *
  obtain ⟨g, hg⟩ : ∃ g, w.heap.size = g := ⟨_, rfl⟩
  have HG : Hid (w.heap.size = g) := Lib.hid hg
  rw [hg] at hB ⊢
  clear hg
  obtain ⟨c0, c1, c2, c3, c4, c5, c6, c7⟩ := hB.cells8
  go_upto_region 2 with (first
    | (go_at_call 5; refine HC.out.mono ?_; rintro e wb ⟨a2, cc2, rfl, hA, hfr, hb2⟩)
    | (go_at_call 6; refine (HF.out _ hb2).mono ?_; rintro e wc ⟨a3, c3', rfl, hL3, hfr3, hb3⟩; have hb3' := bthen hb2 hb3; have hB2 := hB.call hb3'; obtain ⟨q0, q1, q2, q3, q4, q5, q6, q7⟩ := hB2.cells8; have f0 := hB2.frozen 0; have f1 := hB2.frozen 1; have f2 := hB2.frozen 2; have f3 := hB2.frozen 3; have f4 := hB2.frozen 4; have f5 := hB2.frozen 5; have f6 := hB2.frozen 6; have f7 := hB2.frozen 7))
  have hgl := hB.lt
  have hsz := hb2.size
  have hne : ∀ b o s, a2 = some ⟨b, o, s⟩ → b ≠ g := fun b o s e h => by have := hfr b o s e; omega
  have hne3 : ∀ b o s, a3 = some ⟨b, o, s⟩ → b ≠ g := fun b o s e h => by have := hfr3 b o s e; omega
  have hbw := below_set8 (bthen HBL.out hb3') (Nat.le_of_eq HG.out) (.string X.name) (.string X.metric) (.int .i64 X.how) (.int .i64 X.limit) (.int .i64 X.fr) (.int .i64 X.keep) (.int .i64 X.tries) (.slice a2 X.labels.length cc2)
  have hB3 := hB2.set8 (.string X.name) (.string X.metric) (.int .i64 X.how) (.int .i64 X.limit) (.int .i64 X.fr) (.int .i64 X.keep) (.int .i64 X.tries) (.slice a2 X.labels.length cc2)
  have hA3 : RulAt ((((((((wc.setCell ⟨g, 0, none⟩ (.string X.name)).setCell ⟨g, 1, none⟩ (.string X.metric)).setCell ⟨g, 2, none⟩ (.int .i64 X.how)).setCell ⟨g, 3, none⟩ (.int .i64 X.limit)).setCell ⟨g, 4, none⟩ (.int .i64 X.fr)).setCell ⟨g, 5, none⟩ (.int .i64 X.keep)).setCell ⟨g, 6, none⟩ (.int .i64 X.tries)).setCell ⟨g, 7, none⟩ (.slice a2 X.labels.length cc2)) X a2 cc2 := ⟨setO8 (hA.call hb3).1 hne (.string X.name) (.string X.metric) (.int .i64 X.how) (.int .i64 X.limit) (.int .i64 X.fr) (.int .i64 X.keep) (.int .i64 X.tries) (.slice a2 X.labels.length cc2), hA.2⟩
  have hL4 : HasStrs ((((((((wc.setCell ⟨g, 0, none⟩ (.string X.name)).setCell ⟨g, 1, none⟩ (.string X.metric)).setCell ⟨g, 2, none⟩ (.int .i64 X.how)).setCell ⟨g, 3, none⟩ (.int .i64 X.limit)).setCell ⟨g, 4, none⟩ (.int .i64 X.fr)).setCell ⟨g, 5, none⟩ (.int .i64 X.keep)).setCell ⟨g, 6, none⟩ (.int .i64 X.tries)).setCell ⟨g, 7, none⟩ (.slice a2 X.labels.length cc2)) a3 c3' L := strs_set8 hL3 hne3 (.string X.name) (.string X.metric) (.int .i64 X.how) (.int .i64 X.limit) (.int .i64 X.fr) (.int .i64 X.keep) (.int .i64 X.tries) (.slice a2 X.labels.length cc2)
  clear hA hB hB2 hb2 hb3 hb3' hL3 hfr hfr3 q0 q1 q2 q3 q4 q5 q6 q7 f0 f1 f2 f3 f4 f5 f6 f7 c0 c1 c2 c3 c4 c5 c6 c7 hgl hsz hne hne3 HC HF HBL HZ
  generalize ((((((((wc.setCell ⟨g, 0, none⟩ (.string X.name)).setCell ⟨g, 1, none⟩ (.string X.metric)).setCell ⟨g, 2, none⟩ (.int .i64 X.how)).setCell ⟨g, 3, none⟩ (.int .i64 X.limit)).setCell ⟨g, 4, none⟩ (.int .i64 X.fr)).setCell ⟨g, 5, none⟩ (.int .i64 X.keep)).setCell ⟨g, 6, none⟩ (.int .i64 X.tries)).setCell ⟨g, 7, none⟩ (.slice a2 X.labels.length cc2)) = w3 at *
  have hw3 := HWW.out _ hbw
  have hwd := words_any X a2 cc2 w3 hA3 hw3.1
  -- the second half, for any world behind
  have hlate : ∀ W, Below w3.heap.size w3 W → HasStrs W a3 c3' L ∧ RW W := fun W hW => ⟨hL4.call hW, hw3.call hW⟩
  have hrd := fun W (hW : Below w3.heap.size w3 W) => read_any a3 c3' L W (hlate W hW).1 (hlate W hW).2 HLS.out
  obtain ⟨c0, c1, c2, c3, c4, c5, c6, c7⟩ := hB3.cells8
  have HQ := Lib.hid hbw
  have HRD := Lib.hid hrd
  have HLT := Lib.hid hlate
  clear hbw hrd hL4
  have hmeet : ∃ n : Int, ∃ ws : List ByteArray, wordsP X = (ws, n) ∧ ((n = 1 ∧ rulC X = false) ∨ (n = 0 ∧ rulC X = true ∧ ws = wordsL X)) := by
    cases hr : rulC X with
    | false => exact ⟨1, [], by rw [wordsP, if_neg (by rw [hr]; simp)], .inl ⟨rfl, rfl⟩⟩
    | true => exact ⟨0, wordsL X, by rw [wordsP, if_pos hr], .inr ⟨rfl, rfl, rfl⟩⟩
  obtain ⟨n, ws, hP, hcase⟩ := hmeet
  rw [hP] at hwd
  simp only [rCells] at hwd
  have HWD := Lib.hid hwd
  clear hwd hP
  go_upto_region 3 with (go_at_call 7; refine HWD.out.mono ?_; rintro e w4 ⟨p, q, rfl, hp, hb4⟩)
  clear c0 c1 c2 c3 c4 c5 c6 c7
  rcases hcase with ⟨rfl, hr⟩ | ⟨rfl, hr, rfl⟩
  case inl =>
    go_upto_region 7 with fail
    have hb7 := hb4
    clear hr hp hB3 hA3 hw3 hb4 HWD HXN HXM
    generalize w4 = W7 at *
    have hl7 := HLT.out W7 hb7
    have hrd := HRD.out W7 hb7
    have hQ7 := bthen HQ.out hb7
    have HQ7 := Lib.hid hQ7
    rcases readP_cases L with ⟨Z, hIs, e⟩ | ⟨e, hno⟩
    · rw [e] at hrd
      have hwz := fun W p8 q8 (h8 : RulAt W Z p8 q8) (hW : RW W) => words_any Z p8 q8 W h8 hW.1
      rw [show wordsP Z = (L, 0) by rw [wordsP, if_pos hIs.1, hIs.2]] at hwz
      have hsm := fun W p9 q9 (h9 : HasStrs W p9 q9 L) (h3 : HasStrs W a3 c3' L) => same_any p9 a3 q9 c3' L L W h9 h3
      rw [decide_eq_true (rfl : L = L)] at hsm
      simp only [rCells] at hrd hwz
      have HRDD := Lib.hid hrd
      have HWZ := Lib.hid hwz
      have HSM := Lib.hid hsm
      have HL7 := Lib.hid (fun W (hW : Below W7.heap.size W7 W) => HLT.out W (bthen hb7 hW))
      clear hrd hwz hsm hl7 hQ7 hb7 HLT HRD HQ e hIs
      go_wp2_with (first
        | (go_at_call 8; refine HRDD.out.mono ?_; rintro e w8 ⟨p8, q8, rfl, hA8, hb8⟩
           obtain ⟨x0, x1, x2, x3, x4, x5, x6, x7⟩ := (Blk.new w8 24 #[.string Z.name, .string Z.metric, .int .i64 Z.how, .int .i64 Z.limit, .int .i64 Z.fr, .int .i64 Z.keep, .int .i64 Z.tries, .slice p8 Z.labels.length q8]).cells8
           have hb9 := bthen hb8 ((Below.refl w8.heap.size w8).alloc (Nat.le_refl _) (.cells #[.string Z.name, .string Z.metric, .int .i64 Z.how, .int .i64 Z.limit, .int .i64 Z.fr, .int .i64 Z.keep, .int .i64 Z.tries, .slice p8 Z.labels.length q8] 24))
           have hA9 := hA8.call ((Below.refl w8.heap.size w8).alloc (Nat.le_refl _) (.cells #[.string Z.name, .string Z.metric, .int .i64 Z.how, .int .i64 Z.limit, .int .i64 Z.fr, .int .i64 Z.keep, .int .i64 Z.tries, .slice p8 Z.labels.length q8] 24)))
        | (go_at_call 7; refine (HWZ.out _ p8 q8 hA9 (HL7.out _ hb9).2).mono ?_; rintro e wa ⟨p9, q9, rfl, hpa, hba⟩)
        | (go_at_call 11; refine (alive_any _).mono ?_; rintro e wd ⟨rfl, hbd⟩)
        | (go_at_call 13; refine (HSM.out _ p9 q9 (hpa.call hbd) (HL7.out _ (bthen (bthen hb9 hba) hbd)).1).mono ?_; rintro e we ⟨rfl, hbe⟩))
      go_ret
      exact ⟨rfl, bthen HQ7.out (bthen (bthen (bthen hb9 hba) hbd) hbe)⟩
    · rw [e] at hrd
      have hzr : rulC zeroR = false := by decide
      obtain ⟨Z, hZ⟩ : ∃ Z, zeroR = Z := ⟨_, rfl⟩
      rw [hZ] at hzr hrd
      have hrz := fun W p8 q8 (h8 : RulAt W Z p8 q8) => rulRight_any Z p8 q8 W h8
      rw [hzr] at hrz
      simp only [rCells] at hrd hrz
      have HRDD := Lib.hid hrd
      have HRZ := Lib.hid hrz
      clear hrd hrz hl7 hQ7 hb7 HLT HRD HQ e hno hzr hZ
      go_wp2_with (first
        | (go_at_call 8; refine HRDD.out.mono ?_; rintro e w8 ⟨p8, q8, rfl, hA8, hb8⟩
           have hk8 := Blk.new w8 24 #[.string Z.name, .string Z.metric, .int .i64 Z.how, .int .i64 Z.limit, .int .i64 Z.fr, .int .i64 Z.keep, .int .i64 Z.tries, .slice p8 Z.labels.length q8]
           have hb9 := bthen hb8 ((Below.refl w8.heap.size w8).alloc (Nat.le_refl _) (.cells #[.string Z.name, .string Z.metric, .int .i64 Z.how, .int .i64 Z.limit, .int .i64 Z.fr, .int .i64 Z.keep, .int .i64 Z.tries, .slice p8 Z.labels.length q8] 24))
           have hA9 := hA8.call ((Below.refl w8.heap.size w8).alloc (Nat.le_refl _) (.cells #[.string Z.name, .string Z.metric, .int .i64 Z.how, .int .i64 Z.limit, .int .i64 Z.fr, .int .i64 Z.keep, .int .i64 Z.tries, .slice p8 Z.labels.length q8] 24)))
        | (go_at_call 11; refine (alive_any _).mono ?_; rintro e wd ⟨rfl, hbd⟩; obtain ⟨x0, x1, x2, x3, x4, x5, x6, x7⟩ := (hk8.call hbd).cells8)
        | (go_at_call 16; refine (HRZ.out _ p8 q8 (hA9.call hbd)).mono ?_; rintro e we ⟨rfl, hbe⟩))
      go_ret
      exact ⟨rfl, bthen HQ7.out (bthen (bthen hb9 hbd) hbe)⟩
  case inr =>
    have hrx := read_any p q (wordsL X) w4 hp (HLT.out _ hb4).2 (words_size hr HXN.out HXM.out)
    rw [readP_is ⟨hr, rfl⟩] at hrx
    have hlk := fun W p5 q5 (h5 : RulAt W X p5 q5) (hW : Below w3.heap.size w3 W) => rulLike_any X X p5 a2 q5 cc2 W h5 (hA3.call hW)
    rw [likeR_refl] at hlk
    simp only [rCells] at hrx hlk
    have HRX := Lib.hid hrx
    have HLK := Lib.hid hlk
    clear hrx hlk hr HWD HXN HXM
    go_upto_region 7 with (first
      | (go_at_call 8; refine HRX.out.mono ?_; rintro e w5 ⟨p5, q5, rfl, hA5, hb5⟩
         obtain ⟨x0, x1, x2, x3, x4, x5, x6, x7⟩ := (Blk.new w5 24 #[.string X.name, .string X.metric, .int .i64 X.how, .int .i64 X.limit, .int .i64 X.fr, .int .i64 X.keep, .int .i64 X.tries, .slice p5 X.labels.length q5]).cells8
         obtain ⟨y0, y1, y2, y3, y4, y5, y6, y7⟩ := (((hB3.call hb4).call hb5).alloc (.cells #[.string X.name, .string X.metric, .int .i64 X.how, .int .i64 X.limit, .int .i64 X.fr, .int .i64 X.keep, .int .i64 X.tries, .slice p5 X.labels.length q5] 24)).cells8
         have hb6 := bthen (bthen hb4 hb5) ((Below.refl w5.heap.size w5).alloc (Nat.le_refl _) (.cells #[.string X.name, .string X.metric, .int .i64 X.how, .int .i64 X.limit, .int .i64 X.fr, .int .i64 X.keep, .int .i64 X.tries, .slice p5 X.labels.length q5] 24))
         have hA6 := hA5.call ((Below.refl w5.heap.size w5).alloc (Nat.le_refl _) (.cells #[.string X.name, .string X.metric, .int .i64 X.how, .int .i64 X.limit, .int .i64 X.fr, .int .i64 X.keep, .int .i64 X.tries, .slice p5 X.labels.length q5] 24)))
      | (go_at_call 15; refine (HLK.out _ p5 q5 hA6 hb6).mono ?_; rintro e w6 ⟨rfl, hb6'⟩))
    have hb7 := bthen hb6 hb6'
    clear hp hB3 hA3 hw3 hb4 hA5 hb5 hb6 hA6 hb6' x0 x1 x2 x3 x4 x5 x6 x7 y0 y1 y2 y3 y4 y5 y6 y7 HRX HLK
    generalize w6 = W7 at *
    have hl7 := HLT.out W7 hb7
    have hrd := HRD.out W7 hb7
    have hQ7 := bthen HQ.out hb7
    have HQ7 := Lib.hid hQ7
    rcases readP_cases L with ⟨Z, hIs, e⟩ | ⟨e, hno⟩
    · rw [e] at hrd
      have hwz := fun W p8 q8 (h8 : RulAt W Z p8 q8) (hW : RW W) => words_any Z p8 q8 W h8 hW.1
      rw [show wordsP Z = (L, 0) by rw [wordsP, if_pos hIs.1, hIs.2]] at hwz
      have hsm := fun W p9 q9 (h9 : HasStrs W p9 q9 L) (h3 : HasStrs W a3 c3' L) => same_any p9 a3 q9 c3' L L W h9 h3
      rw [decide_eq_true (rfl : L = L)] at hsm
      simp only [rCells] at hrd hwz
      have HRDD := Lib.hid hrd
      have HWZ := Lib.hid hwz
      have HSM := Lib.hid hsm
      have HL7 := Lib.hid (fun W (hW : Below W7.heap.size W7 W) => HLT.out W (bthen hb7 hW))
      clear hrd hwz hsm hl7 hQ7 hb7 HLT HRD HQ e hIs
      go_wp2_with (first
        | (go_at_call 8; refine HRDD.out.mono ?_; rintro e w8 ⟨p8, q8, rfl, hA8, hb8⟩
           obtain ⟨x0, x1, x2, x3, x4, x5, x6, x7⟩ := (Blk.new w8 24 #[.string Z.name, .string Z.metric, .int .i64 Z.how, .int .i64 Z.limit, .int .i64 Z.fr, .int .i64 Z.keep, .int .i64 Z.tries, .slice p8 Z.labels.length q8]).cells8
           have hb9 := bthen hb8 ((Below.refl w8.heap.size w8).alloc (Nat.le_refl _) (.cells #[.string Z.name, .string Z.metric, .int .i64 Z.how, .int .i64 Z.limit, .int .i64 Z.fr, .int .i64 Z.keep, .int .i64 Z.tries, .slice p8 Z.labels.length q8] 24))
           have hA9 := hA8.call ((Below.refl w8.heap.size w8).alloc (Nat.le_refl _) (.cells #[.string Z.name, .string Z.metric, .int .i64 Z.how, .int .i64 Z.limit, .int .i64 Z.fr, .int .i64 Z.keep, .int .i64 Z.tries, .slice p8 Z.labels.length q8] 24)))
        | (go_at_call 7; refine (HWZ.out _ p8 q8 hA9 (HL7.out _ hb9).2).mono ?_; rintro e wa ⟨p9, q9, rfl, hpa, hba⟩)
        | (go_at_call 11; refine (alive_any _).mono ?_; rintro e wd ⟨rfl, hbd⟩)
        | (go_at_call 13; refine (HSM.out _ p9 q9 (hpa.call hbd) (HL7.out _ (bthen (bthen hb9 hba) hbd)).1).mono ?_; rintro e we ⟨rfl, hbe⟩))
      go_ret
      exact ⟨rfl, bthen HQ7.out (bthen (bthen (bthen hb9 hba) hbd) hbe)⟩
    · rw [e] at hrd
      have hzr : rulC zeroR = false := by decide
      obtain ⟨Z, hZ⟩ : ∃ Z, zeroR = Z := ⟨_, rfl⟩
      rw [hZ] at hzr hrd
      have hrz := fun W p8 q8 (h8 : RulAt W Z p8 q8) => rulRight_any Z p8 q8 W h8
      rw [hzr] at hrz
      simp only [rCells] at hrd hrz
      have HRDD := Lib.hid hrd
      have HRZ := Lib.hid hrz
      clear hrd hrz hl7 hQ7 hb7 HLT HRD HQ e hno hzr hZ
      go_wp2_with (first
        | (go_at_call 8; refine HRDD.out.mono ?_; rintro e w8 ⟨p8, q8, rfl, hA8, hb8⟩
           have hk8 := Blk.new w8 24 #[.string Z.name, .string Z.metric, .int .i64 Z.how, .int .i64 Z.limit, .int .i64 Z.fr, .int .i64 Z.keep, .int .i64 Z.tries, .slice p8 Z.labels.length q8]
           have hb9 := bthen hb8 ((Below.refl w8.heap.size w8).alloc (Nat.le_refl _) (.cells #[.string Z.name, .string Z.metric, .int .i64 Z.how, .int .i64 Z.limit, .int .i64 Z.fr, .int .i64 Z.keep, .int .i64 Z.tries, .slice p8 Z.labels.length q8] 24))
           have hA9 := hA8.call ((Below.refl w8.heap.size w8).alloc (Nat.le_refl _) (.cells #[.string Z.name, .string Z.metric, .int .i64 Z.how, .int .i64 Z.limit, .int .i64 Z.fr, .int .i64 Z.keep, .int .i64 Z.tries, .slice p8 Z.labels.length q8] 24)))
        | (go_at_call 11; refine (alive_any _).mono ?_; rintro e wd ⟨rfl, hbd⟩; obtain ⟨x0, x1, x2, x3, x4, x5, x6, x7⟩ := (hk8.call hbd).cells8)
        | (go_at_call 16; refine (HRZ.out _ p8 q8 (hA9.call hbd)).mono ?_; rintro e we ⟨rfl, hbe⟩))
      go_ret
      exact ⟨rfl, bthen HQ7.out (bthen (bthen hb9 hbd) hbe)⟩
end Go.Proofs.YtdlhmjdjoadioabGreatDoor
