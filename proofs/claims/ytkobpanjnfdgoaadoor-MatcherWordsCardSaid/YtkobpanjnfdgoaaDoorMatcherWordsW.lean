/- The walk of MatcherWords. -/
import Derived.Test.YtkobpanjnfdgoaaDoorMatJ
import Derived.Test.YtkobpanjnfdgoaaDoorAppS
namespace Go.Proofs.YtkobpanjnfdgoaaDoor
open Go.RowKit Go.Maps

theorem labs_setCell {w : World} {a : Option Addr} {c g : Nat} {ls : List Lab} {t : TypeId} {x z : Value} {k : Int} (h : HasLabs w a c ls) (hb : Blk w g t #[x, .int .i64 k, z]) (hz : ∀ s, z ≠ .string s) (i : Nat) (u : Value) : HasLabs (w.setCell ⟨g, i, none⟩ u) a c ls := by
  refine labs_other h (fun b o s e hne => ?_) (by simp [World.setCell])
  subst e
  have hs : s = none := by
    rcases h.2.2.2 with h4 | ⟨b2, o2, e, _⟩
    · exact absurd h4 hne
    · cases e; rfl
  subst hs
  exact Below.heap_setCell _ _ u b (labs_apart h hb hz hne)
theorem hasStrs_setCell {w : World} {a : Option Addr} {c g : Nat} {ss : List ByteArray} (h : HasStrs w a c ss) (hf : ∀ b o s, a = some ⟨b, o, s⟩ → g < b) (i : Nat) (u : Value) : HasStrs (w.setCell ⟨g, i, none⟩ u) a c ss := by
  obtain ⟨h1, h2, h3, h4⟩ := h
  rcases h4 with h4 | ⟨b, off, rfl, hlt, hc⟩
  · exact ⟨h1, h2, h3, .inl h4⟩
  · refine HasStrs.other ⟨h1, h2, h3, .inr ⟨b, off, rfl, hlt, hc⟩⟩ (Below.heap_setCell _ _ u b (Nat.ne_of_gt (hf b off none rfl))) (by simp [World.setCell])

theorem MaxC.setCell {w : World} (h : MaxC w) {g : Nat} (hg : 0 ≠ g) (i : Nat) (u : Value) : MaxC (w.setCell ⟨g, i, none⟩ u) := by
  obtain ⟨k, hk⟩ := h
  exact ⟨k, (World.cell?_of_block (Below.heap_setCell _ _ _ 0 hg)).trans hk⟩
/-- MOne of the words of m -/
def oneM (m : Mat) : Mat := ⟨m.name, 3, m.words⟩
def fewM (m : Mat) (D : Nat) : Mat := ⟨m.name, 3, m.words.take D ++ m.words.drop (D + 1)⟩
def onlyM (m : Mat) (D : Nat) : Mat := ⟨m.name, 1, (m.words.drop D).take 1⟩
theorem words_law (ls : List Lab) (m : Mat) (D : Nat) (hD : D < m.words.length) (h2 : 2 ≤ m.words.length) (hl : rightC ls = true) (hr : rightM (oneM m) = true) :
    holdsL ls [fewM m D] = (inB (getL ls m.name) (m.words.take D ++ m.words.drop (D + 1)), 0) ∧ holdsL ls [onlyM m D] = (inB (getL ls m.name) [m.words[D]], 0) ∧
      inB (getL ls m.name) m.words = (inB (getL ls m.name) (m.words.take D ++ m.words.drop (D + 1)) || inB (getL ls m.name) [m.words[D]]) ∧
      (inB (getL ls m.name) (m.words.take D ++ m.words.drop (D + 1)) && inB (getL ls m.name) [m.words[D]]) = false := by
  obtain ⟨hn, _, _, hw, h1, h8, _⟩ := (rightM_iff _).1 hr
  simp only [oneM] at hn hw h1 h8
  obtain ⟨hall, hp⟩ := (wordsC_iff _).1 hw
  have hsplit : m.words = m.words.take D ++ m.words[D] :: m.words.drop (D + 1) := by
    conv => lhs; rw [← List.take_append_drop D m.words, List.drop_eq_getElem_cons hD]
  have hdrop : (m.words.drop D).take 1 = [m.words[D]] := by rw [List.drop_eq_getElem_cons hD]; rfl
  have hsub : (m.words.take D ++ m.words.drop (D + 1)).Sublist m.words := by
    conv => rhs; rw [hsplit]
    exact (List.Sublist.refl _).append (List.sublist_cons_self _ _)
  have hlen : (m.words.take D ++ m.words.drop (D + 1)).length = m.words.length - 1 := by simp; omega
  have hrf : rightM (fewM m D) = true := by
    refine (rightM_iff _).2 ⟨hn, (by show (1 : Int) ≤ 3; decide), (by show (3 : Int) ≤ 4; decide), (wordsC_iff _).2 ⟨fun s hs => hall s (hsub.subset hs), hp.sublist hsub⟩, ?_, ?_, .inl (by show (3 : Int) ≤ 3; decide)⟩
    · show 1 ≤ (m.words.take D ++ m.words.drop (D + 1)).length; omega
    · show (m.words.take D ++ m.words.drop (D + 1)).length ≤ 8; omega
  have hro : rightM (onlyM m D) = true := by
    refine (rightM_iff _).2 ⟨hn, (by show (1 : Int) ≤ 1; decide), (by show (1 : Int) ≤ 4; decide), ?_, ?_, ?_, .inr ?_⟩ <;> (unfold onlyM; rw [hdrop])
    · exact (wordsC_iff _).2 ⟨fun s hs => by rw [List.mem_singleton] at hs; subst hs; exact hall _ (List.getElem_mem hD), List.pairwise_singleton _ _⟩
    · exact Nat.le_refl _
    · show 1 ≤ 8; omega
    · rfl
  refine ⟨?_, ?_, ?_, ?_⟩
  · unfold holdsL
    rw [if_pos hl, if_pos (by simp [hrf])]
    simp [holdsM, fewM, getW, inB, onesC, signC]
  · unfold holdsL
    rw [if_pos hl, if_pos (by simp [hro])]
    simp [holdsM, onlyM, getW, inB, onesC, signC, hdrop]
  · conv => lhs; rw [hsplit]
    rw [inB, List.any_append, List.any_cons, inB, List.any_append, inB]
    simp only [List.any_cons, List.any_nil, Bool.or_false]
    have hb : ∀ a b c : Bool, (a || (b || c)) = ((a || c) || b) := by decide
    exact hb _ _ _
  · rw [← Bool.not_eq_true, Bool.and_eq_true]
    rintro ⟨q1, q2⟩
    rw [inB_iff] at q1 q2
    rw [List.mem_singleton] at q2
    rw [q2] at q1
    rw [hsplit, List.pairwise_append] at hp
    obtain ⟨_, p2, p3⟩ := hp
    rcases List.mem_append.1 q1 with q | q
    · have := p3 _ q _ (List.mem_cons_self)
      unfold ltW at this; rw [lessB_irrefl] at this; cases this
    · have := (List.pairwise_cons.1 p2).1 _ q
      unfold ltW at this; rw [lessB_irrefl] at this; cases this

theorem drop_law (d : Int) (n : Nat) (hn : 0 < n) (h8 : n ≤ 10) : ∃ D : Nat, D < n ∧ (wrap64 (d.tmod n + n)).tmod n = (D : Int) := by
  have h4 := Int.lt_tmod_of_pos d (show (0 : Int) < (n : Int) by omega)
  have h5 : d.tmod n < n := Int.tmod_lt_of_pos d (by omega)
  have h1 : (d.tmod n + n).tmod n = ((d.tmod n + n) % n) := Int.tmod_eq_emod_of_nonneg (by omega)
  have h2 := Int.emod_nonneg (d.tmod n + n) (show (n : Int) ≠ 0 by omega)
  have h3 := Int.emod_lt_of_pos (d.tmod n + n) (show (0 : Int) < (n : Int) by omega)
  refine ⟨((d.tmod n + n) % n).toNat, by omega, ?_⟩
  rw [IntWalk.wrap64_in (d.tmod n + n) (by omega), h1]
  omega

set_option maxHeartbeats 12800000 in
set_option maxRecDepth 100000 in
theorem matcherWords_walk {w : World} (a0 : Option Addr) (len0 cap0 : Nat) (ls0 : List Lab) (w0 : ls0.length = len0 ∧ HasLabs w a0 cap0 ls0) (v1 : Value) (m1 : Mat) (w1 : HasMat w v1 m1) (a2 : Int) (w2 : (Lit.int .i64 a2).wf = true) (hmc : MaxC w) :
    Calls Tryd.prog 7 #[.slice a0 len0 cap0, v1, .int .i64 a2] w fun e w' => e = .returned (.bool true) ∧ Below w.heap.size w w' := by
  obtain ⟨rfl, h0⟩ := w0
  obtain ⟨a1, c1, rfl, hs1, hn1, hwf1⟩ := w1
  have H0 := Lib.hid h0
  have H1 := Lib.hid (fun W (hb : Below w.heap.size w W) => (⟨a1, c1, rfl, hs1.call hb, hn1, hwf1⟩ : HasMat W _ m1))
  have HMC := Lib.hid hmc
  have HW2 := Lib.hid w2
  clear h0 hs1 hn1 hwf1 hmc w2
  go_enter Tryd.func7, Tryd.ntmps7
  go_upto_region 1 with fail
  have hblk := Blk.new w 25 #[.string m1.name, .int .i64 m1.how, .slice a1 m1.words.length c1]
  have hb0 : Below w.heap.size w (w.alloc (.cells #[.string m1.name, .int .i64 m1.how, .slice a1 m1.words.length c1] 25)) := (Below.refl _ _).alloc (Nat.le_refl _) _
  generalize w.alloc (.cells #[.string m1.name, .int .i64 m1.how, .slice a1 m1.words.length c1] 25) = wx at *
  have HB := Lib.hid hblk
  have HB0 := Lib.hid hb0
  obtain ⟨x0, x1, x2⟩ := hblk.cells3
  clear hblk hb0
  go_cut [0] (fun l wy => ∃ p q a c, l = .slice p (fewL ls0).length q ∧ HasLabs wy p q (fewL ls0) ∧ Blk wy w.heap.size 25 #[.string (cutM m1).name, .int .i64 m1.how, .slice a (cutM m1).words.length c] ∧ HasStrs wy a c (cutM m1).words ∧ (∀ b o s, a = some ⟨b, o, s⟩ → w.heap.size < b) ∧ Below w.heap.size w wy)
  case first =>
    go_region_with (first
      | (go_at_call 9; (with_reducible refine (few_any a0 cap0 ls0 _ ?_).mono ?_); (first | exact H0.out.call HB0.out.drew | exact H0.out.call (bthen HB0.out.drew hbc)); rintro e wf ⟨p, q, rfl, hL, hbf⟩; (try have hkf := HB.out.drew.call hbf); (try have hkf := hkc.call hbf); obtain ⟨y0, y1, y2⟩ := hkf.cells3; have g0 := hkf.frozen 0; have g1 := hkf.frozen 1; have g2 := hkf.frozen 2)
      | (go_at_call 10; (with_reducible refine (cut_any _ m1 _ ?_).mono ?_); (first | exact H1.out _ HB0.out.drew | exact H1.out _ (bthen HB0.out.drew hbf)); rintro e wc ⟨ac, cc, rfl, hS, hF, hbc⟩; (try have hkc := HB.out.drew.call hbc); (try have hkc := hkf.call hbc); obtain ⟨y0, y1, y2⟩ := hkc.cells3; have g0 := hkc.frozen 0; have g1 := hkc.frozen 1; have g2 := hkc.frozen 2))
    all_goals
      go_wp2_with fail
      go_meet
      exact ⟨p, q, ac, cc, rfl, labs_set3 (hL.call hbc) hkc slice_ne _ _ _, hkc.set3 _ _ _, hS.set3F (fun b o s e => Nat.lt_trans hkf.lt (hF b o s e)) _ _ _, (fun b o s e => Nat.lt_trans hkf.lt (hF b o s e)), below_set3 (bthen (bthen HB0.out.drew hbf) hbc) (Nat.le_refl _) _ _ _⟩
  case rest =>
    clear x0 x1 x2
    obtain ⟨p, q, a, c, rfl, hL, hK, hS, hF, hb⟩ := hcut
    have hmc2 := HMC.out.call hb
    have hnm : (cutM m1).name.size ≤ maxLen := cutM_name m1
    have hwl := cutM_words m1
    have hll := fewL_len ls0
    clear HB HB0 H0 H1 HMC
    generalize fewL ls0 = L at *
    generalize cutM m1 = M at *
    have g1 := hK.frozen 1
    obtain ⟨y0, y1, y2⟩ := hK.cells3
    have hL2 := labs_setCell hL hK slice_ne 1 (.int .i64 3)
    have hS2 := hasStrs_setCell hS hF 1 (.int .i64 3)
    have hK2 : Blk (wc.setCell ⟨w.heap.size, 1, none⟩ (.int .i64 3)) w.heap.size 25 #[.string M.name, .int .i64 3, .slice a M.words.length c] := hK.set 1 _
    have hb2 : Below w.heap.size w (wc.setCell ⟨w.heap.size, 1, none⟩ (.int .i64 3)) := hb.setCell (Nat.le_refl _) _
    have hm2 : MaxC (wc.setCell ⟨w.heap.size, 1, none⟩ (.int .i64 3)) := by
      obtain ⟨k, hk⟩ := hmc2
      refine ⟨k, ?_⟩
      rw [← hk]
      exact World.cell?_of_block (Below.heap_setCell _ _ _ 0 (fun e => by
        have h1 := hk
        have e' : w.heap.size = 0 := e.symm
        rw [e'] at y0
        rw [y0] at h1; cases h1))
    have HL := Lib.hid hL2
    have HS := Lib.hid hS2
    have HK := Lib.hid hK2
    have HB := Lib.hid hb2
    have HM := Lib.hid hm2
    have HF := Lib.hid hF
    clear hL hS hK hb hmc2 hF hL2 hS2 hK2 hb2 hm2
    go_upto_region 3 with fail
    generalize wc.setCell ⟨w.heap.size, 1, none⟩ (.int .i64 3) = wd at *
    clear y0 y1 y2 g1
    have hz := HB.out.size
    have hL0 := HL.out
    have hS0 := HS.out
    have hhold := holds_any _ _ _ _ _ _ _ (hL0.call ((Below.refl _ _).alloc (Nat.le_refl _) (.cells (matCells a c (oneM M)) 25))) (hasMats_one _ a c (oneM M) hS0 hnm (by show (Lit.int .i64 3).wf = true; decide)) (by show 1 ≤ 1000; decide)
    unfold matCells HoldsPost at hhold
    obtain ⟨B, hB⟩ : ∃ B, (holdsL L [oneM M]).1 = B := ⟨_, rfl⟩
    obtain ⟨E, hE⟩ : ∃ E, (holdsL L [oneM M]).2 = E := ⟨_, rfl⟩
    rw [hB, hE] at hhold
    have hhold2 : Calls Tryd.prog 11 #[.slice p L.length q, .slice (some ⟨wd.heap.size, 0, none⟩) 1 1] (wd.alloc (.cells #[.string M.name, .int .i64 3, .slice a M.words.length c] 25)) fun e w' => e = .returned (.tuple #[.bool B, .int .i64 E]) ∧ Below (wd.alloc (.cells #[.string M.name, .int .i64 3, .slice a M.words.length c] 25)).heap.size (wd.alloc (.cells #[.string M.name, .int .i64 3, .slice a M.words.length c] 25)) w' := hhold
    have HH := Lib.hid hhold2
    have hspec : (E ≠ 0 ∧ B = false) ∨ (E = 0 ∧ rightC L = true ∧ rightM (oneM M) = true ∧ B = inB (getL L M.name) M.words) := by
      rw [← hB, ← hE]
      unfold holdsL
      by_cases h1 : rightC L = true
      · rw [if_pos h1]
        by_cases h2 : [oneM M].all rightM = true
        · rw [if_pos h2]
          refine .inr ⟨rfl, h1, by simpa using h2, by simp [holdsM, oneM, getW, inB, onesC, signC]⟩
        · rw [if_neg h2]
          exact .inl ⟨by decide, rfl⟩
      · rw [if_neg h1]
        exact .inl ⟨by decide, rfl⟩
    have HSP := Lib.hid hspec
    have hbz := HB.out.alloc HB.out.size (.cells #[.string M.name, .int .i64 3, .slice a M.words.length c] 25)
    have hkz := HK.out.alloc (.cells #[.string M.name, .int .i64 3, .slice a M.words.length c] 25)
    have hlz := hL0.call ((Below.refl _ _).alloc (Nat.le_refl _) (.cells #[.string M.name, .int .i64 3, .slice a M.words.length c] 25))
    have hsz := hS0.call ((Below.refl _ _).alloc (Nat.le_refl _) (.cells #[.string M.name, .int .i64 3, .slice a M.words.length c] 25))
    have hmz := HM.out.call ((Below.refl _ _).alloc (Nat.le_refl _) (.cells #[.string M.name, .int .i64 3, .slice a M.words.length c] 25))
    have HBZ := Lib.hid hbz
    have HKZ := Lib.hid hkz
    have HLZ := Lib.hid hlz
    have HSZ := Lib.hid hsz
    have HMZ := Lib.hid hmz
    obtain ⟨z0, z1, z2⟩ := HK.out.cells3
    clear hhold hhold2 hspec hbz hkz hlz hsz hmz hB hE hL0 hS0 hz
    go_upto_region 4 with (go_at_call 11; (with_reducible refine HH.out.mono ?_); rintro e w5 ⟨rfl, hb5⟩)
    have hb6 := bthen HBZ.out hb5
    have hk6 := HKZ.out.call hb5
    have hl6 := HLZ.out.call hb5
    have hs6 := HSZ.out.call hb5
    have hm6 := HMZ.out.call hb5
    clear HH HK HB HL HS HM HBZ HKZ HLZ HSZ HMZ hb5 z0 z1 z2
    have HB := Lib.hid hb6
    have HK := Lib.hid hk6
    have HL := Lib.hid hl6
    have HS := Lib.hid hs6
    have HM := Lib.hid hm6
    obtain ⟨z0, z1, z2⟩ := hk6.cells3
    clear hb6 hk6 hl6 hs6 hm6
    rcases HSP.out with ⟨hne, rfl⟩ | ⟨rfl, hrl, hrm, hBq⟩
    · have he : (E != 0) = true := bne_iff_ne.2 hne
      clear HSP hne
      go_wp2_with (go_at_call 16; refine (alive_any _ HM.out).mono ?_; rintro e w7 ⟨rfl, hb7⟩)
      go_ret
      exact ⟨rfl, bthen HB.out hb7⟩
    by_cases h2 : M.words.length < 2
    · have h2i : (M.words.length : Int) < 2 := by omega
      clear HSP
      go_wp2_with (go_at_call 16; refine (alive_any _ HM.out).mono ?_; rintro e w7 ⟨rfl, hb7⟩)
      go_ret
      exact ⟨rfl, bthen HB.out hb7⟩
    have h2i : decide ((M.words.length : Int) < 2) = false := decide_eq_false (by omega)
    obtain ⟨D, hD, hd1⟩ := drop_law a2 M.words.length (by omega) hwl
    obtain ⟨l1, l2, l3, l4⟩ := words_law L M D hD (by omega) hrl hrm
    have HL1 := Lib.hid l1
    have HL2 := Lib.hid l2
    have HL3 := Lib.hid l3
    have HL4 := Lib.hid l4
    have HBQ := Lib.hid hBq
    have hn0 : (M.words.length : Int) ≠ 0 := by omega
    have hn1 : ((M.words.length : Int) == 0) = false := beq_eq_false_iff_ne.2 hn0
    clear HSP l1 l2 l3 l4 hBq
    go_upto_region 6 with fail
    have z0d : w5.drew.cell? ⟨w.heap.size, 2, none⟩ = some (.slice a M.words.length c) := z2
    go_region
    clear hd1 hn0 hn1 h2i z0d HW2
    have hx7 := (Below.refl _ w5).alloc (Nat.le_refl _) (.cells #[.string M.name, .int .i64 3, .slice a M.words.length c] 25)
    have hb7 := (HB.out.alloc HB.out.size (.cells #[.string M.name, .int .i64 3, .slice a M.words.length c] 25)).drew
    have hk7 := (HK.out.alloc (.cells #[.string M.name, .int .i64 3, .slice a M.words.length c] 25)).drew
    have hg7 := (Blk.new w5 25 #[.string M.name, .int .i64 3, .slice a M.words.length c]).drew
    have hl7 := HasLabs.drew (HL.out.call hx7)
    have hs7 := HasStrs.drew (HS.out.call hx7)
    have hm7 := (HM.out.call hx7).drew
    have hlt : w.heap.size < w5.heap.size := HK.out.lt
    have HLT := Lib.hid hlt
    have HB5 : Hid (∀ b o s, a = some ⟨b, o, s⟩ → b < w5.heap.size) := Lib.hid (fun b o s e => by
      rcases HS.out.2.2.2 with h4 | ⟨b2, o2, e2, hlt2, _⟩
      · rw [h4] at hD; simp at hD
      · rw [e] at e2; cases e2; exact hlt2)
    clear hx7 hlt HB HK HL HS HM
    go_upto_region 8 with fail
    generalize (w5.alloc (.cells #[.string M.name, .int .i64 3, .slice a M.words.length c] 25)).drew = we at *
    obtain ⟨_, hcm, _, h4⟩ := id hs7
    rcases h4 with h4 | ⟨b, off, rfl, _⟩
    · rw [h4] at hD; simp at hD
    have hcap := hs7.1
    unfold maxLen at hcm
    have HB := Lib.hid hb7
    have HK := Lib.hid hk7
    have HG := Lib.hid hg7
    have HL := Lib.hid hl7
    have HS := Lib.hid hs7
    have HM := Lib.hid hm7
    obtain ⟨z0, z1, z2⟩ := hk7.cells3
    have z2a := fun o => (hk7.alloc o).cells3.2.2
    have e1 : wrap64 ((D : Int) + 1) = (D : Int) + 1 := IntWalk.wrap64_in _ (by omega)
    have e2 : (D : Int) + 1 ≤ (M.words.length : Int) := by omega
    have e3 : (M.words.length : Int) ≤ (c : Int) := by omega
    have e4 : (D : Int) ≤ (c : Int) := by omega
    have e5 : (D : Int) + 1 ≤ (c : Int) := by omega
    have hos : OwnS 9 (we.drew.alloc (.cells #[] 9)) we.heap.size (.slice (some ⟨we.heap.size, 0, none⟩) 0 0) [] := OwnS.made _ we.drew
    have htk : HasStrs (we.drew.alloc (.cells #[] 9)) (some ⟨b, off, none⟩) c (M.words.take D) := (hasStrs_take (HS.out.drew) D (by omega)).call ((Below.refl _ _).alloc (Nat.le_refl _) _)
    obtain ⟨i0, hi, hz0, hz1, hz2⟩ := info_parts Tryd.infoS
    have hza : we.heap.size ≤ (we.drew.alloc (.cells #[] 9)).heap.size := by rw [World.size_alloc]; show we.heap.size ≤ we.heap.size + 1; omega
    have hbw : b < we.heap.size := by
      rcases HS.out.2.2.2 with h4 | ⟨b2, o2, e, hlt2, _⟩
      · rw [h4] at hD; simp at hD
      · cases e; exact hlt2
    have HKA := Lib.hid (fun (w8 : World) (hg8 : (we.drew.alloc (.cells #[] 9)).grownBy w8 (some we.heap.size)) => ((HK.out.drew.alloc (.cells #[] 9)).push hg8 (by have := HK.out.lt; simp; omega)))
    have HSA := Lib.hid (fun (w8 : World) (hg8 : (we.drew.alloc (.cells #[] 9)).grownBy w8 (some we.heap.size)) => (((HS.out.drew).call ((Below.refl _ _).alloc (Nat.le_refl _) (.cells #[] 9))).other (hg8.block b (by rw [World.size_alloc]; exact Nat.lt_succ_of_lt hbw) (by simp; omega)) hg8.size : HasStrs w8 (some ⟨b, off, none⟩) c M.words))
    have e6 : IntKind.i64.wrap ((D : Int) + 1) = (D : Int) + 1 := IntWalk.i64_in _ (by omega)
    have e7 : ((D : Int) + 1).toNat = D + 1 := by omega
    have e8 : (0 : Int) ≤ (D : Int) + 1 := by omega
    have hdr : ∀ W, HasStrs W (some ⟨b, off, none⟩) c M.words → HasStrs W (if c = D + 1 then some ⟨b, off, none⟩ else some ⟨b, off + (D + 1), none⟩) (c - (D + 1)) (M.words.drop (D + 1)) := fun W hW => by
      split
      · rename_i hc
        rw [List.drop_of_length_le (by omega)]
        exact HasStrs.nil _ _ _ (by unfold maxLen; omega)
      · exact hasStrs_drop hW (D + 1) (by omega) rfl
    have HDR := Lib.hid hdr
    obtain ⟨X, hX⟩ : ∃ X, (if c = D + 1 then some (⟨b, off, none⟩ : Addr) else some ⟨b, off + (D + 1), none⟩) = X := ⟨_, rfl⟩
    rw [hX] at HDR
    have hsz9 : ∀ s ∈ ([] ++ M.words.take D) ++ M.words.drop (D + 1), s.size ≤ maxLen := fun s hs => by
      rw [List.nil_append, List.mem_append] at hs
      rcases hs with hs | hs
      · exact HS.out.2.2.1 s (List.mem_of_mem_take hs)
      · exact HS.out.2.2.1 s (List.mem_of_mem_drop hs)
    have HSZ9 := Lib.hid hsz9
    have hlf : ((([] ++ M.words.take D) ++ M.words.drop (D + 1)) : List ByteArray).length = M.words.length - 1 := by simp; omega
    have HLF := Lib.hid hlf
    have hgl := HG.out.lt
    have HGL := Lib.hid hgl
    clear hb7 hk7 hg7 hl7 hs7 hm7 hdr hsz9 hlf hgl
    go_cut [60] (fun _ wy => ∃ p9 q9, Blk wy w5.heap.size 25 #[.string M.name, .int .i64 3, .slice p9 (M.words.length - 1) q9] ∧ HasStrs wy p9 q9 (M.words.take D ++ M.words.drop (D + 1)) ∧ HasStrs wy (some ⟨b, off, none⟩) c M.words ∧ HasLabs wy p q L ∧ Blk wy w.heap.size 25 #[.string M.name, .int .i64 3, .slice (some ⟨b, off, none⟩) M.words.length c] ∧ MaxC wy ∧ Below w.heap.size w wy)
    case first =>
      go_region_law (first
        | (refine step_appS (we.drew.alloc (.cells #[] 9)) (by rfl) (.tmp 49) (.tmp 53) 23 (by rfl) we.heap.size 9 i0 (.string ⟨#[]⟩) Tryd.underlying23 hi hz0 hz1 hz2 rfl (.slice (some ⟨we.heap.size, 0, none⟩) 0 0) [] (by rfl) hos (some ⟨b, off, none⟩) D c (M.words.take D) (by rfl) (by simp; omega) htk (by simp; omega) hza ?_; intro v8 w8 hown8 hg8; obtain ⟨k0, k1, k2⟩ := (HKA.out w8 hg8).cells3)
        | (refine step_appS w8 (by rfl) (.tmp 54) (.tmp 59) 23 (by rfl) we.heap.size 9 i0 (.string ⟨#[]⟩) Tryd.underlying23 hi hz0 hz1 hz2 rfl v8 ([] ++ M.words.take D) (by rfl) hown8 X (M.words.length - (D + 1)) (c - (D + 1)) (M.words.drop (D + 1)) (by rfl) (by simp) (HDR.out w8 (HSA.out w8 hg8)) (by simp; omega) (Nat.le_trans hza hg8.size) ?_; intro v9 w9 hown9 hg9; obtain ⟨p9, q9, rfl, _⟩ := hown9.strs HSZ9.out; have hk9 := ((HG.out.drew.alloc (.cells #[] 9)).push hg8 (hos.ne HGL.out)).push hg9 (hown8.ne HGL.out); obtain ⟨m0, m1, m2⟩ := hk9.cells3; have f2 := hk9.frozen 2))
      all_goals
        go_wp2_with fail
        go_meet
        have hle : min D M.words.length + (M.words.length - (D + 1)) = M.words.length - 1 := by omega
        rw [hle]
        have hbe8 := OwnS.grown hos ((Below.refl we.heap.size we).drew.alloc (Nat.le_refl _) (.cells #[] 9)) (Nat.le_refl _) hza hg8
        have hbe9 := hown8.grown hbe8 (Nat.le_refl _) hbe8.size hg9
        obtain ⟨p7, q7, eq7, hs7⟩ := (hown9.setCell HGL.out 2 (.slice p9 (M.words.length - 1) q9)).strs HSZ9.out
        rw [HLF.out] at eq7
        obtain ⟨rfl, rfl⟩ : p9 = p7 ∧ q9 = q7 := by
          simp only [Value.slice.injEq] at eq7
          exact ⟨eq7.1, eq7.2.2⟩
        exact ⟨p9, q9, hk9.set 2 _, hs7, HasStrs.other (HS.out.call hbe9) (Below.heap_setCell _ _ _ b (Nat.ne_of_lt (HB5.out _ _ _ rfl))) (by simp [World.setCell]), labs_setCell (HL.out.call hbe9) hk9 slice_ne 2 _, (HK.out.call hbe9).setO _ _ (Nat.ne_of_lt HLT.out), (HM.out.call hbe9).setCell (by have := HLT.out; omega) 2 _, (bthen HB.out hbe9).setCell (Nat.le_of_lt HLT.out) _⟩
    case rest =>
      obtain ⟨p9, q9, hg, hsf, hs, hl, hk, hm, hb⟩ := hcut
      clear HB HK HG HL HS HM HB5 HKA HSA HDR HSZ9 HLF HGL hos htk hza z0 z1 z2 z2a
      have hlf : ((M.words.take D ++ M.words.drop (D + 1)) : List ByteArray).length = M.words.length - 1 := by simp; omega
      have hwf3 : (Lit.int .i64 (fewM M D).how).wf = true := by show (Lit.int .i64 3).wf = true; decide
      have hhold := fun W (hW : Below _ _ W) => holds_any _ _ _ _ _ _ _ ((hl.call hW).call ((Below.refl _ _).alloc (Nat.le_refl _) (.cells (matCells p9 q9 (fewM M D)) 25))) (hasMats_one W p9 q9 (fewM M D) (hsf.call hW) hnm hwf3) (by show 1 ≤ 1000; decide)
      unfold matCells HoldsPost at hhold
      rw [HL1.out] at hhold
      have e9 : (fewM M D).words.length = M.words.length - 1 := hlf
      rw [e9] at hhold
      have HLO : Hid (∀ (W : World) (g : Nat), HasLabs W p q L → HasMats W (some ⟨g, 0, none⟩) 1 [onlyM M D] →
          Calls Tryd.prog 11 #[.slice p L.length q, .slice (some ⟨g, 0, none⟩) 1 1] W fun e w' => e = .returned (.tuple #[.bool (inB (getL L M.name) [M.words[D]]), .int .i64 0]) ∧ Below W.heap.size W w') := Lib.hid (fun W g h1 h2 => by
        have h3 := holds_any p (some ⟨g, 0, none⟩) q 1 L [onlyM M D] W h1 h2 (by show 1 ≤ 1000; decide)
        unfold HoldsPost at h3
        rw [HL2.out] at h3
        exact h3)
      have hB7 : B = (inB (getL L M.name) (M.words.take D ++ M.words.drop (D + 1)) || inB (getL L M.name) [M.words[D]]) := HBQ.out.trans HL3.out
      have hN7 := HL4.out
      have hdt : (M.words.drop D).take 1 = [M.words[D]] := by rw [List.drop_eq_getElem_cons hD]; rfl
      have honly : ∀ W, HasStrs W (some ⟨b, off, none⟩) c M.words → HasStrs W (some ⟨b, off + D, none⟩) (c - D) (onlyM M D).words := fun W hW => hasStrs_take (hasStrs_drop hW D (by omega) rfl) 1 (by rw [List.length_drop]; omega)
      have hol : (onlyM M D).words.length = 1 := by show ((M.words.drop D).take 1).length = 1; rw [hdt]; rfl
      have hwf1 : (Lit.int .i64 (onlyM M D).how).wf = true := by show (Lit.int .i64 1).wf = true; decide
      have h9 := hhold wc (Below.refl _ _)
      generalize inB (getL L M.name) (M.words.take D ++ M.words.drop (D + 1)) = F at *
      generalize inB (getL L M.name) [M.words[D]] = O at *
      have h9b : Calls Tryd.prog 11 #[.slice p L.length q, .slice (some ⟨wc.heap.size, 0, none⟩) 1 1] (wc.alloc (.cells #[.string M.name, .int .i64 3, .slice p9 (M.words.length - 1) q9] 25)) fun e w' => e = .returned (.tuple #[.bool F, .int .i64 0]) ∧ Below (wc.alloc (.cells #[.string M.name, .int .i64 3, .slice p9 (M.words.length - 1) q9] 25)).heap.size (wc.alloc (.cells #[.string M.name, .int .i64 3, .slice p9 (M.words.length - 1) q9] 25)) w' := h9
      have H9 := Lib.hid h9b
      have hx9 := (Below.refl _ wc).alloc (Nat.le_refl _) (.cells #[.string M.name, .int .i64 3, .slice p9 (M.words.length - 1) q9] 25)
      have HX9 := Lib.hid hx9
      have HG := Lib.hid hg
      have HS := Lib.hid hs
      have HL := Lib.hid hl
      have HK := Lib.hid hk
      have HM := Lib.hid hm
      have HB := Lib.hid hb
      have HON := Lib.hid honly
      have HOL := Lib.hid hol
      have HB7 := Lib.hid hB7
      have HN7 := Lib.hid hN7
      have HW1 := Lib.hid hwf1
      have HNM := Lib.hid hnm
      obtain ⟨m0, m1', m2⟩ := hg.cells3
      clear hhold h9 h9b hx9 hg hs hl hk hm hb honly hol hB7 hN7 hwf1 hnm HBQ HL1 HL2 HL3 HL4 hdt hlf hwf3 e9 hrl hrm hsf
      go_upto_region 10 with (go_at_call 11; (with_reducible refine H9.out.mono ?_); rintro e w10 ⟨rfl, hb10⟩)
      have hbt := bthen HX9.out hb10
      have hs10 := HS.out.call hbt
      have hl10 := HL.out.call hbt
      have hk10 := HK.out.call hbt
      have hm10 := HM.out.call hbt
      have hb11 := bthen HB.out hbt
      have hmo : HasMats (w10.alloc (.cells #[.string M.name, .int .i64 1, .slice (some ⟨b, off + D, none⟩) 1 (c - D)] 25)) (some ⟨w10.heap.size, 0, none⟩) 1 [onlyM M D] := by
        have := hasMats_one w10 (some ⟨b, off + D, none⟩) (c - D) (onlyM M D) (HON.out _ hs10) HNM.out HW1.out
        unfold matCells at this
        rw [HOL.out] at this
        exact this
      have HMO := Lib.hid hmo
      have HLA := Lib.hid (HasLabs.drew (hl10.call ((Below.refl _ _).alloc (Nat.le_refl _) (.cells #[.string M.name, .int .i64 1, .slice (some ⟨b, off + D, none⟩) 1 (c - D)] 25))))
      have HBE := Lib.hid (hb11.alloc hb11.size (.cells #[.string M.name, .int .i64 1, .slice (some ⟨b, off + D, none⟩) 1 (c - D)] 25)).drew
      have HME := Lib.hid (hm10.call ((Below.refl _ _).alloc (Nat.le_refl _) (.cells #[.string M.name, .int .i64 1, .slice (some ⟨b, off + D, none⟩) 1 (c - D)] 25))).drew
      obtain ⟨z0, z1, z2⟩ := hk10.cells3
      have hcd : ¬ c = D := by omega
      clear hbt hs10 hl10 hk10 hm10 hb11 hmo hb10 m0 m1' m2 HX9 H9 HG HS HL HK HM HB
      go_region_with (go_at_call 11; (with_reducible refine (HLO.out _ w10.heap.size ?_ ?_).mono ?_); exact HLA.out; exact HMO.out; rintro e w12 ⟨rfl, hb12⟩)
      all_goals
        have hmz := HME.out.call hb12
        have HMZ := Lib.hid hmz
        have HBZ := Lib.hid (bthen HBE.out hb12)
        have hB7 := HB7.out
        have hN7 := HN7.out
        clear hmz HLA HMO HBE HME hb12 HLO z0 z1 z2 hcd e1 e2 e3 e4 e5 e6 e7 e8 hX
        cases F <;> cases O <;> simp only [Bool.or_true, Bool.or_false, Bool.true_or, Bool.false_or, Bool.and_true, Bool.and_false, Bool.true_and, Bool.false_and, Bool.true_eq_false, Bool.false_eq_true] at hB7 hN7 <;> subst hB7
        all_goals
          go_wp2_with (go_at_call 16; refine (alive_any _ HMZ.out).mono ?_; rintro e w13 ⟨rfl, hb13⟩)
          go_ret
          exact ⟨rfl, bthen HBZ.out hb13⟩
end Go.Proofs.YtkobpanjnfdgoaaDoor
