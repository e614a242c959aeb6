/- The walk of MatcherOpposes. -/
import Derived.Test.YtjkmnanadeffnaaDoorMatJ
import Derived.Test.YtjkmnanadeffnaaDoorMatO
import Derived.Test.YtjkmnanadeffnaaDoorOwnM
import Derived.Test.YtjkmnanadeffnaaDoorMatI2
import Derived.Test.YtjkmnanadeffnaaDoorMatsArg
import Derived.Deep.DeepCutAuto
import Derived.Deep.LoopGhost
namespace Go.Proofs.YtjkmnanadeffnaaDoor
open Go.RowKit Go.Maps

set_option maxHeartbeats 12800000 in
set_option maxRecDepth 100000 in
theorem matcherOpposes_walk {w : World} (a0 : Option Addr) (len0 cap0 : Nat) (ls0 : List Lab) (w0 : ls0.length = len0 ∧ HasLabs w a0 cap0 ls0) (v1 : Value) (m1 : Mat) (w1 : HasMat w v1 m1) (a2 : Option Addr) (len2 cap2 : Nat) (ms2 : List Mat) (w2 : ms2.length = len2 ∧ HasMats w a2 cap2 ms2) (hmc : MaxC w) :
    Calls Tryd.prog 6 #[.slice a0 len0 cap0, v1, .slice a2 len2 cap2] w fun e w' => e = .returned (.bool true) ∧ Below w.heap.size w w' := by
  obtain ⟨rfl, h0⟩ := w0
  obtain ⟨a1, c1, rfl, hs1, hn1, hwf1⟩ := w1
  obtain ⟨rfl, h2⟩ := w2
  have H0 := Lib.hid h0
  have H1 := Lib.hid (fun W (hb : Below w.heap.size w W) => (⟨a1, c1, rfl, hs1.call hb, hn1, hwf1⟩ : HasMat W _ m1))
  have HMC := Lib.hid hmc
  have H2 := Lib.hid h2
  have HWF := Lib.hid hwf1
  clear h0 hs1 hn1 hwf1 hmc h2
  go_enter Tryd.func6, Tryd.ntmps6
  go_upto_region 1 with fail
  have hblk := Blk.new w 25 #[.string m1.name, .int .i64 m1.how, .slice a1 m1.words.length c1]
  have hb0 : Below w.heap.size w (w.alloc (.cells #[.string m1.name, .int .i64 m1.how, .slice a1 m1.words.length c1] 25)) := (Below.refl _ _).alloc (Nat.le_refl _) _
  generalize w.alloc (.cells #[.string m1.name, .int .i64 m1.how, .slice a1 m1.words.length c1] 25) = wx at *
  have HB := Lib.hid hblk
  have HB0 := Lib.hid hb0
  obtain ⟨x0, x1, x2⟩ := hblk.cells3
  clear hblk hb0
  go_cut [0] (fun l wy => ∃ p q a c, l = .slice p (fewL ls0).length q ∧ HasLabs wy p q (fewL ls0) ∧ Blk wy w.heap.size 25 #[.string (cutM m1).name, .int .i64 m1.how, .slice a (cutM m1).words.length c] ∧ HasStrs wy a c (cutM m1).words ∧ (∀ b o s, a = some ⟨b, o, s⟩ → w.heap.size < b) ∧ Below w.heap.size w wy ∧ InTexts wy a)
  case first =>
    go_region_with (first
      | (go_at_call 9; (with_reducible refine (few_any a0 cap0 ls0 _ ?_).mono ?_); (first | exact H0.out.call HB0.out.drew | exact H0.out.call (bthen HB0.out.drew hbc)); rintro e wf ⟨p, q, rfl, hL, hbf⟩; (try have hkf := HB.out.drew.call hbf); (try have hkf := hkc.call hbf); obtain ⟨y0, y1, y2⟩ := hkf.cells3; have g0 := hkf.frozen 0; have g1 := hkf.frozen 1; have g2 := hkf.frozen 2)
      | (go_at_call 10; (with_reducible refine (cutT_any _ m1 _ ?_).mono ?_); (first | exact H1.out _ HB0.out.drew | exact H1.out _ (bthen HB0.out.drew hbf)); rintro e wc ⟨ac, cc, rfl, hS, hF, hbc, hT⟩; (try have hkc := HB.out.drew.call hbc); (try have hkc := hkf.call hbc); obtain ⟨y0, y1, y2⟩ := hkc.cells3; have g0 := hkc.frozen 0; have g1 := hkc.frozen 1; have g2 := hkc.frozen 2))
    all_goals
      go_wp2_with fail
      go_meet
      exact ⟨p, q, ac, cc, rfl, labs_set3 (hL.call hbc) hkc slice_ne _ _ _, hkc.set3 _ _ _, hS.set3F (fun b o s e => Nat.lt_trans hkf.lt (hF b o s e)) _ _ _, (fun b o s e => Nat.lt_trans hkf.lt (hF b o s e)), below_set3 (bthen (bthen HB0.out.drew hbf) hbc) (Nat.le_refl _) _ _ _, hT.set3 (fun b o s e => Nat.lt_trans hkf.lt (hF b o s e)) _ _ _⟩
  case rest =>
    clear x0 x1 x2
    obtain ⟨p, q, a, c, rfl, hL, hK, hS, hF, hb, hT⟩ := hcut
    have hmc2 := HMC.out.call hb
    have hm2 := H2.out.call hb
    have hnm : (cutM m1).name.size ≤ maxLen := cutM_name m1
    have hwl := cutM_words m1
    have hll := fewL_len ls0
    have hwf2 : (Lit.int .i64 (cutM m1).how).wf = true := HWF.out
    have ehow : m1.how = (cutM m1).how := rfl
    rw [ehow] at hK
    clear HB HB0 H0 H1 HMC HWF H2 ehow hF
    generalize fewL ls0 = L at *
    generalize cutM m1 = M at *
    obtain ⟨y0, y1, y2⟩ := hK.cells3
    have hwc : w.heap.size < wc.heap.size := hK.lt
    have HW := Lib.hid hwc
    have FL := Lib.hid (fun W (h : Below wc.heap.size wc W) => hL.call h)
    have FS := Lib.hid (fun W (h : Below wc.heap.size wc W) => hS.call h)
    have FK := Lib.hid (fun W (h : Below wc.heap.size wc W) => (hK.call h).cells3)
    have FM := Lib.hid (fun W (h : Below wc.heap.size wc W) => hmc2.call h)
    have F2 := Lib.hid (fun W (h : Below wc.heap.size wc W) => hm2.call h)
    have FT := Lib.hid (fun W (h : Below wc.heap.size wc W) => hT.call h)
    have FB := Lib.hid (fun W (h : Below wc.heap.size wc W) => bthen hb h)
    have HNM := Lib.hid hnm
    -- the first and the last call, of one matcher
    have hone : ∀ (N : Mat) W (_ : Below wc.heap.size wc W), N.words = M.words → N.name = M.name → (Lit.int .i64 N.how).wf = true → Calls Tryd.prog 11 #[.slice p L.length q, .slice (some ⟨W.heap.size, 0, none⟩) 1 1] (W.alloc (.cells #[.string N.name, .int .i64 N.how, .slice a N.words.length c] 25)) (HoldsPost L [N] (W.alloc (.cells #[.string N.name, .int .i64 N.how, .slice a N.words.length c] 25))) := fun N W h e1 e2 e3 =>
      holds_any _ _ _ _ _ _ _ (FL.out _ (bthen h ((Below.refl _ _).alloc (Nat.le_refl _) _))) (hasMats_one _ a c N (by rw [e1]; exact FS.out _ h) (by rw [e2]; exact HNM.out) e3) (by show 1 ≤ 1000; decide)
    have HONE := Lib.hid hone
    clear hone
    obtain ⟨B, hB⟩ : ∃ B, (holdsL L [M]).1 = B := ⟨_, rfl⟩
    obtain ⟨E, hE⟩ : ∃ E, (holdsL L [M]).2 = E := ⟨_, rfl⟩
    have hhold := HONE.out M wc (Below.refl _ _) rfl rfl hwf2
    unfold HoldsPost at hhold
    rw [hB, hE] at hhold
    have HH := Lib.hid hhold
    have hspec : (E = 1 ∧ B = false) ∨ (E = 0 ∧ rightC L = true ∧ rightM M = true ∧ B = holdsM (getL L M.name) M) := by
      rw [← hB, ← hE, holds1_is]
      by_cases h1 : rightC L = true
      · rw [if_pos h1]
        by_cases h2 : rightM M = true
        · rw [if_pos h2]
          exact .inr ⟨rfl, h1, h2, rfl⟩
        · rw [if_neg h2]
          exact .inl ⟨rfl, rfl⟩
      · rw [if_neg h1]
        exact .inl ⟨rfl, rfl⟩
    have HSP := Lib.hid hspec
    have HX := Lib.hid ((Below.refl wc.heap.size wc).alloc (Nat.le_refl _) (.cells #[.string M.name, .int .i64 M.how, .slice a M.words.length c] 25))
    clear hL hK hS hT hb hmc2 hm2 hhold hspec hB hE hnm hwc
    go_upto_region 3 with (go_at_call 11; (with_reducible refine HH.out.mono ?_); rintro e w5 ⟨rfl, hb5⟩)
    have hc5 := bthen HX.out hb5
    have HC := Lib.hid hc5
    obtain ⟨z0, z1, z2⟩ := FK.out _ hc5
    clear HH HX hb5 hc5 y0 y1 y2
    rcases HSP.out with ⟨rfl, rfl⟩ | ⟨rfl, hrl, hrm, hBq⟩
    · clear HSP
      go_wp2_with (go_at_call 16; refine (alive_any _ (FM.out _ HC.out)).mono ?_; rintro e w7 ⟨rfl, hb7⟩)
      go_ret
      exact ⟨rfl, bthen (FB.out _ HC.out) hb7⟩
    clear HSP
    obtain ⟨_, hh1, hh4, _⟩ := (rightM_iff M).1 hrm
    have hwo : (Lit.int .i64 (oppM M).how).wf = true := by
      show (Lit.int .i64 (oppH M.how)).wf = true
      rcases (by omega : M.how = 1 ∨ M.how = 2 ∨ M.how = 3 ∨ M.how = 4) with e | e | e | e <;> rw [e] <;> decide
    have e1 : wrap64 (M.how - 1) = M.how - 1 := IntWalk.wrap64_in _ (by omega)
    have e2 : wrap64 (M.how + 1) = M.how + 1 := IntWalk.wrap64_in _ (by omega)
    go_upto_region 6 with fail
    have hg := Blk.new w5 25 #[.string M.name, .int .i64 M.how, .slice a M.words.length c]
    have hce := bthen HC.out ((Below.refl w5.heap.size w5).alloc (Nat.le_refl _) (.cells #[.string M.name, .int .i64 M.how, .slice a M.words.length c] 25))
    have hgw : wc.heap.size ≤ w5.heap.size := HC.out.size
    generalize w5.alloc (.cells #[.string M.name, .int .i64 M.how, .slice a M.words.length c] 25) = we at *
    clear HC z0 z1 z2
    generalize w5.heap.size = G at *
    obtain ⟨g0, g1, g2⟩ := hg.cells3
    obtain ⟨z0, z1, z2⟩ := FK.out _ hce
    have gf := hg.frozen 1
    have gf2 := fun u => (hg.set 1 u).frozen 1
    have z1a := fun u => (FK.out _ (hce.setCell (p := ⟨G, 1, none⟩) hgw u)).2.1
    have HG := Lib.hid hg
    have HCE := Lib.hid hce
    have HGW := Lib.hid hgw
    clear hg hce hgw
    obtain ⟨o, ho⟩ : ∃ o, oppH M.how = o := ⟨_, rfl⟩
    have hnot : (holdsL L [oppM M]) = (!B, 0) := by
      rw [holds1_is, if_pos hrl, if_pos (oppM_right hrm)]
      show (holdsM (getL L M.name) (oppM M), (0 : Int)) = _
      rw [oppM_holds hrm, ← hBq]
    obtain ⟨B2, hB2⟩ : ∃ B2, (!B) = B2 := ⟨_, rfl⟩
    have hbb : (B == B2) = false := by rw [← hB2]; cases B <;> rfl
    have hopp := fun W (h : Below wc.heap.size wc W) => HONE.out (oppM M) W h rfl rfl hwo
    unfold HoldsPost at hopp
    rw [hnot, hB2] at hopp
    have hopp2 : ∀ W (_ : Below wc.heap.size wc W), Calls Tryd.prog 11 #[.slice p L.length q, .slice (some ⟨W.heap.size, 0, none⟩) 1 1] (W.alloc (.cells #[.string M.name, .int .i64 o, .slice a M.words.length c] 25)) fun e w' => e = .returned (.tuple #[.bool B2, .int .i64 0]) ∧ Below (W.alloc (.cells #[.string M.name, .int .i64 o, .slice a M.words.length c] 25)).heap.size (W.alloc (.cells #[.string M.name, .int .i64 o, .slice a M.words.length c] 25)) w' := by
      rw [← ho]; exact hopp
    have HOPP := Lib.hid hopp2
    have HBQ := Lib.hid hBq
    have HRL := Lib.hid hrl
    have HRM := Lib.hid hrm
    clear hnot hB2 hopp hopp2 hBq hrl hrm HONE hwo
    by_cases hodd : M.how % 2 = 1
    case' pos =>
      have et2 : (M.how % 2 == 1) = true := beq_iff_eq.2 hodd
      have ho2 : M.how + 1 = o := by rw [← ho]; unfold oppH; rw [if_pos hodd]
      clear ho
      go_upto_region 9 with fail
      have hg9 : Blk ((we.setCell ⟨G, 1, none⟩ (.int .i64 (M.how - 1))).setCell ⟨G, 1, none⟩ (.int .i64 o)) G 25 #[.string M.name, .int .i64 o, .slice a M.words.length c] := (HG.out.set 1 _).set 1 _
      have hc9 := (HCE.out.setCell (p := ⟨G, 1, none⟩) HGW.out (.int .i64 (M.how - 1))).setCell (p := ⟨G, 1, none⟩) HGW.out (.int .i64 o)
      generalize (we.setCell ⟨G, 1, none⟩ (.int .i64 (M.how - 1))).setCell ⟨G, 1, none⟩ (.int .i64 o) = wf at *
      clear et2 ho2 hodd
    case' neg =>
      have et2 : (M.how % 2 == 1) = false := beq_eq_false_iff_ne.2 hodd
      have ho2 : M.how - 1 = o := by rw [← ho]; unfold oppH; rw [if_neg hodd]
      clear ho
      go_upto_region 9 with fail
      have hg9 : Blk (we.setCell ⟨G, 1, none⟩ (.int .i64 o)) G 25 #[.string M.name, .int .i64 o, .slice a M.words.length c] := HG.out.set 1 _
      have hc9 := HCE.out.setCell (p := ⟨G, 1, none⟩) HGW.out (.int .i64 o)
      generalize we.setCell ⟨G, 1, none⟩ (.int .i64 o) = wf at *
      clear et2 ho2 hodd
    all_goals
      clear z0 z1 z2 g0 g1 g2 gf gf2 z1a HG HCE e1 e2
      obtain ⟨g0, g1, g2⟩ := hg9.cells3
      have HC9 := Lib.hid hc9
      clear hg9 hc9
      have hcap := (F2.out _ HC9.out).1
      have hcm := (F2.out _ HC9.out).2.1
      unfold maxLen at hcm
      have hmn := fun W (t : TypeId) (ts : Array TypeId) => run_minFour (P := Tryd.prog) W ts t ms2.length
      go_upto_region 13 with (first
        | (go_at_call 11; (with_reducible refine (HOPP.out _ HC9.out).mono ?_); rintro e w10 ⟨rfl, hb10⟩; have hc10 := bthen HC9.out (bthen ((Below.refl _ _).alloc (Nat.le_refl _) _) hb10))
        | (go_at_call 16; (with_reducible refine (alive_any _ (FM.out _ hc10)).mono ?_); rintro e w11 ⟨rfl, hb11⟩; have hc11 := bthen hc10 hb11; obtain ⟨z0, z1, z2⟩ := FK.out _ hc11))
      have hown := own_one 25 w11 ⟨M, a, c⟩
      have hok0 : ∀ x ∈ [(⟨M, a, c⟩ : MatAt)], x.ok (w11.alloc (.cells #[.string M.name, .int .i64 M.how, .slice a M.words.length c] 25)) ∧ InTexts (w11.alloc (.cells #[.string M.name, .int .i64 M.how, .slice a M.words.length c] 25)) x.at_ := fun x hx => by
        rw [List.mem_singleton] at hx; subst hx
        exact ⟨⟨FS.out _ (bthen hc11 ((Below.refl _ _).alloc (Nat.le_refl _) _)), HNM.out, hwf2⟩, FT.out _ (bthen hc11 ((Below.refl _ _).alloc (Nat.le_refl _) _))⟩
      have hck := bthen hc11 ((Below.refl w11.heap.size w11).alloc (Nat.le_refl _) (.cells #[.string M.name, .int .i64 M.how, .slice a M.words.length c] 25))
      have hbs : w11.heap.size ≤ (w11.alloc (.cells #[.string M.name, .int .i64 M.how, .slice a M.words.length c] 25)).heap.size := by simp
      have hcb : wc.heap.size ≤ w11.heap.size := hc11.size
      obtain ⟨wk, hwk⟩ : ∃ wk, w11.alloc (.cells #[.string M.name, .int .i64 M.how, .slice a M.words.length c] 25) = wk := ⟨_, rfl⟩
      rw [hwk]
      rw [hwk] at hown hok0 hck hbs
      clear hwk z0 z1 z2 g0 g1 g2 hc10 hc11 hb10 hb11 HOPP
      have hown2 : OwnM 25 wk w11.heap.size (.slice (some ⟨w11.heap.size, 0, none⟩) 1 1) [⟨M, a, c⟩] := hown
      clear hown
      generalize w11.heap.size = base at *
      have HOW := Lib.hid hown2
      have HOK := Lib.hid hok0
      have HCK := Lib.hid hck
      have HBS := Lib.hid hbs
      have HCB := Lib.hid hcb
      clear hown2 hok0 hck hbs hcb HC9
      obtain ⟨i0, hi, hz0, hz1, hz2⟩ := info_partsM Tryd.infoMat
      obtain ⟨m4, hm4⟩ : ∃ m4, min ms2.length 4 = m4 := ⟨_, rfl⟩
      rw [hm4] at hmn
      have hm4l : m4 ≤ ms2.length := by omega
      have hm44 : m4 ≤ 4 := by omega
      clear hm4
      have HLW := Lib.hid (show (B && (pickM (ms2.take 0)).all fun m => holdsM (getL L m.name) m) = B by simp [pickM])
      go_wp2_with fail
      have HBT := Lib.hid (fun W (h : Below wc.heap.size wc W) => (F2.out _ h))
      go_loopg [7, 12, 76] m4 (fun gg is al iv wr => ∃ (k : Nat) (qs : List MatAt) (v : Value), v = al ∧ k + gg = m4 ∧ iv = .int .i64 (k : Int) ∧ is = .bool (B && (pickM (ms2.take k)).all fun m => holdsM (getL L m.name) m) ∧ OwnM 25 wr base v qs ∧ qs.map (·.mat) = M :: pickM (ms2.take k) ∧ (∀ x ∈ qs, x.ok wr ∧ InTexts wr x.at_) ∧ Below wc.heap.size wc wr ∧ base ≤ wr.heap.size)
      case atStart => exact ⟨0, _, _, rfl, by omega, rfl, by rw [HLW.out], HOW.out, by simp [pickM], HOK.out, HCK.out, HBS.out⟩
      case round =>
        obtain ⟨k, qs, v, rfl, hkg, rfl, rfl, hown, hqs, hok, hbc, hbz⟩ := hrel
        have hql : qs.length ≤ 1000 := by
          have h1 : (qs.map (·.mat)).length = qs.length := by simp
          have h2 := pickM_len (ms2.take k)
          rw [hqs] at h1
          have h3 : (ms2.take k).length ≤ k := List.length_take_le _ _
          simp only [List.length_cons] at h1
          omega
        have HOWN := Lib.hid hown
        have HQS := Lib.hid hqs
        have HOKQ := Lib.hid hok
        have HBC := Lib.hid hbc
        have HBZ := Lib.hid hbz
        clear hown hqs hok hbc hbz HOW HOK HCK HBS HLW
        cases gk with
        | zero =>
          obtain rfl : k = m4 := by omega
          clear hkg
          obtain ⟨IS, hIS⟩ : ∃ IS, (B && (pickM (ms2.take k)).all fun m => holdsM (getL L m.name) m) = IS := ⟨_, rfl⟩
          obtain ⟨av, cv, e9, hms⟩ := HOWN.out.mats fun x hx => (HOKQ.out x hx).1
          rw [e9]
          rw [HQS.out] at hms
          have hlen : qs.length = (M :: pickM (ms2.take k)).length := by rw [← HQS.out]; simp
          rw [hlen]
          have hh := holds_any _ _ _ _ _ _ _ (FL.out _ HBC.out) hms (by rw [← hlen]; exact hql)
          unfold HoldsPost at hh
          rw [holdsL_all HRL.out (by rw [List.all_cons, HRM.out, pickM_right]; rfl)] at hh
          rw [List.all_cons, ← HBQ.out, hIS] at hh
          have HH := Lib.hid hh
          have hii : (IS == IS) = true := by simp
          rw [hIS]
          clear e9 hms hlen hh hIS
          generalize M :: pickM (ms2.take k) = Z at *
          go_wp2_with (go_at_call 11; (with_reducible refine HH.out.mono ?_); rintro e w12 ⟨rfl, hb12⟩)
          go_ret
          exact ⟨rfl, bthen (FB.out _ HBC.out) hb12⟩
        | succ gg =>
          have hk4 : k < m4 := by omega
          have hkm : k < ms2.length := by omega
          have hmats := HBT.out _ HBC.out
          obtain ⟨b, off, rfl⟩ : ∃ b off, a2 = some ⟨b, off, none⟩ := by
            rcases hmats.2.2 with h | ⟨b, off, rfl, _⟩
            · rw [h] at hkm; simp at hkm
            · exact ⟨b, off, rfl⟩
          obtain ⟨x, y, ⟨c0, c1, c2⟩, hsx, hnx, hwx⟩ := mats_at hmats k hkm
          have hpk := pickM_snoc (ms2.take k) ms2[k]
          rw [← List.take_succ_eq_append_getElem hkm] at hpk
          obtain ⟨N, hN⟩ : ∃ N, ms2[k] = N := ⟨_, rfl⟩
          rw [hN] at c0 c1 c2 hsx hnx hwx hpk
          clear hmats hN
          have hx0 := Blk.new wr 25 #[.string N.name, .int .i64 N.how, .slice x N.words.length y]
          have hxb := (Below.refl wr.heap.size wr).alloc (Nat.le_refl _) (.cells #[.string N.name, .int .i64 N.how, .slice x N.words.length y] 25)
          have hcut := cutT_any (.agg #[.string N.name, .int .i64 N.how, .slice x N.words.length y]) N _ ⟨x, y, rfl, hsx.call hxb, hnx, hwx⟩
          unfold MatPostT at hcut
          have hwN : (Lit.int .i64 (cutM N).how).wf = true := hwx
          have hnN : (cutM N).name.size ≤ maxLen := cutM_name N
          have hlt : wr.heap.size < (wr.alloc (.cells #[.string N.name, .int .i64 N.how, .slice x N.words.length y] 25)).heap.size := by simp
          have HCUT := Lib.hid hcut
          have HPK := Lib.hid hpk
          have HLT := Lib.hid hlt
          clear hcut hpk hsx hnx hwx hlt
          generalize cutM N = C at *
          go_upto_region 17 with (go_at_call 10; (with_reducible refine HCUT.out.mono ?_); rintro e w13 ⟨a', c', rfl, hS', hF', hb13, hT'⟩; have hx13 := hx0.call hb13; obtain ⟨y0, y1, y2⟩ := hx13.cells3; have f0 := hx13.frozen 0; have f1 := hx13.frozen 1; have f2 := hx13.frozen 2)
          have hb14 := below_set3 (bthen hxb hb13) (Nat.le_refl _) (.string C.name) (.int .i64 C.how) (.slice a' C.words.length c')
          have hx14 := hx13.set3 (.string C.name) (.int .i64 C.how) (.slice a' C.words.length c')
          have hS14 := hS'.set3F (fun b o s e => Nat.lt_trans HLT.out (hF' b o s e)) (.string C.name) (.int .i64 C.how) (.slice a' C.words.length c')
          have hT14 := hT'.set3 (fun b o s e => Nat.lt_trans HLT.out (hF' b o s e)) (.string C.name) (.int .i64 C.how) (.slice a' C.words.length c')
          generalize ((w13.setCell ⟨wr.heap.size, 0, none⟩ (.string C.name)).setCell ⟨wr.heap.size, 1, none⟩ (.int .i64 C.how)).setCell ⟨wr.heap.size, 2, none⟩ (.slice a' C.words.length c') = w14 at *
          clear c0 c1 c2 hx0 hxb hS' hF' hT' hb13 hx13 y0 y1 y2 f0 f1 f2 HCUT HLT
          obtain ⟨y0, y1, y2⟩ := hx14.cells3
          have hrt := fun W (h : Below w14.heap.size w14 W) => mRight_any (.agg #[.string C.name, .int .i64 C.how, .slice a' C.words.length c']) C W ⟨a', c', rfl, hS14.call h, hnN, hwN⟩
          have HS14 := Lib.hid hS14
          have HT14 := Lib.hid hT14
          have HX14 := Lib.hid hx14
          clear hS14 hx14 hT14
          have hOW14 := HOWN.out.call hb14
          have hOK14 : ∀ x ∈ qs, x.ok w14 ∧ InTexts w14 x.at_ := fun x hx => ⟨(HOKQ.out x hx).1.call hb14, (HOKQ.out x hx).2.call hb14⟩
          have hBC14 := bthen HBC.out hb14
          have hBZ14 := Nat.le_trans HBZ.out hb14.size
          have HOW14 := Lib.hid hOW14
          have HOK14 := Lib.hid hOK14
          have HBC14 := Lib.hid hBC14
          have HBZ14 := Lib.hid hBZ14
          clear hOW14 hOK14 hBC14 hBZ14 hb14 HOWN HOKQ HBC HBZ
          cases hrc : rightM C with
          | false =>
            rw [hrc] at hrt
            have HRT := Lib.hid hrt
            have hpk := HPK.out
            rw [if_neg (by rw [hrc]; simp)] at hpk
            have HP2 := Lib.hid hpk
            clear hrt hrc hpk HPK
            go_wp2_with (go_at_call 12; (with_reducible refine (HRT.out _ (Below.refl _ _)).mono ?_); rintro e w15 ⟨rfl, hb15⟩)
            go_roundg gg
            case measure => omega
            case rel => exact ⟨k + 1, qs, v, rfl, by omega, by go_num, by rw [HP2.out], HOW14.out.call hb15, by rw [HP2.out]; exact HQS.out, fun x hx => ⟨(HOK14.out x hx).1.call hb15, (HOK14.out x hx).2.call hb15⟩, bthen HBC14.out hb15, Nat.le_trans HBZ14.out hb15.size⟩
          | true =>
            rw [hrc] at hrt
            have HRT := Lib.hid hrt
            have hpk := HPK.out
            rw [if_pos (by rw [hrc])] at hpk
            have HP2 := Lib.hid hpk
            have hall : (B && (pickM (ms2.take (k + 1))).all fun m => holdsM (getL L m.name) m) = ((B && (pickM (ms2.take k)).all fun m => holdsM (getL L m.name) m) && holdsM (getL L C.name) C) := by
              rw [hpk, List.all_append, Bool.and_assoc]; simp
            obtain ⟨O, hO⟩ : ∃ O, holdsM (getL L C.name) C = O := ⟨_, rfl⟩
            have hone : ∀ W (_ : Below w14.heap.size w14 W), Calls Tryd.prog 11 #[.slice p L.length q, .slice (some ⟨W.heap.size, 0, none⟩) 1 1] (W.alloc (.cells #[.string C.name, .int .i64 C.how, .slice a' C.words.length c'] 25)) fun e w' => e = .returned (.tuple #[.bool O, .int .i64 0]) ∧ Below (W.alloc (.cells #[.string C.name, .int .i64 C.how, .slice a' C.words.length c'] 25)).heap.size (W.alloc (.cells #[.string C.name, .int .i64 C.how, .slice a' C.words.length c'] 25)) w' := fun W h => by
              have hh := holds_any _ _ _ _ _ _ _ (FL.out _ (bthen (bthen HBC14.out h) ((Below.refl _ _).alloc (Nat.le_refl _) (.cells (matCells a' c' C) 25)))) (hasMats_one W a' c' C (HS14.out.call h) hnN hwN) (by show 1 ≤ 1000; decide)
              unfold HoldsPost at hh
              rw [holds1_is, if_pos HRL.out, if_pos hrc, hO] at hh
              exact hh
            rw [hO] at hall
            have HONE := Lib.hid hone
            have HALL := Lib.hid hall
            have HK14 := Lib.hid (fun W (h : Below w14.heap.size w14 W) => (HX14.out.call h).cells3)
            clear hrt hrc hpk HPK hO hone hall HX14
            obtain ⟨IS, hIS⟩ : ∃ IS, (B && (pickM (ms2.take k)).all fun m => holdsM (getL L m.name) m) = IS := ⟨_, rfl⟩
            have HIS := Lib.hid hIS
            rw [hIS]
            clear hIS
            go_upto_region 21 with (first
              | (go_at_call 12; (with_reducible refine (HRT.out _ (Below.refl _ _)).mono ?_); rintro e w15 ⟨rfl, hb15⟩; obtain ⟨z0, z1, z2⟩ := HK14.out _ hb15)
              | (go_at_call 11; (with_reducible refine (HONE.out _ hb15).mono ?_); rintro e w16 ⟨rfl, hb16⟩; have hb146 := bthen hb15 (bthen ((Below.refl _ _).alloc (Nat.le_refl _) _) hb16); obtain ⟨v0, v1, v2⟩ := HK14.out _ hb146))
            have hOW16 := HOW14.out.call hb146
            have hBC16 := bthen HBC14.out hb146
            have hBZ16 := Nat.le_trans HBZ14.out hb146.size
            have HOK16 := Lib.hid (fun x hx => (⟨(HOK14.out x hx).1.call hb146, (HOK14.out x hx).2.call hb146⟩ : MatAt.ok w16 x ∧ InTexts w16 x.at_))
            have HT16 := Lib.hid (HT14.out.call hb146)
            have HS16 := Lib.hid (HS14.out.call hb146)
            have HOW16 := Lib.hid hOW16
            have HBC16 := Lib.hid hBC16
            have HBZ16 := Lib.hid hBZ16
            clear hOW16 hBC16 hBZ16 hb146 hb15 hb16 z0 z1 z2 HOW14 HBC14 HBZ14 HOK14 HS14 HT14 HK14 HRT HONE
            cases IS
            all_goals
              go_wp2_with (at_builtin; refine (wpList_pushMat w16 rfl _ _ 45 rfl base 25 i0 (.agg #[.string ⟨#[]⟩, .int .i64 0, .slice none 0 0]) Tryd.underlying45 hi hz0 hz1 hz2 rfl v qs rfl HOW16.out ⟨C, a', c'⟩ rfl hql HBZ16.out ?_))
              intro v17 w17 hown17 hg17
              have HO17 := Lib.hid hown17
              have HG17 := Lib.hid hg17
              clear hown17 hg17 v0 v1 v2
              go_wp2_with fail
              have hcb : Below wc.heap.size wc w17 := HOW16.out.grown HBC16.out HCB.out HBC16.out.size HG17.out
              have hgr : ∀ (x : MatAt), x.ok w16 → InTexts w16 x.at_ → x.ok w17 ∧ InTexts w17 x.at_ := fun x h1 h2 => by
                have hsame := h2.grown HOW16.out HG17.out
                obtain ⟨k1, k2, k3⟩ := h1
                refine ⟨⟨?_, k2, k3⟩, fun b o s e => ?_⟩
                · obtain ⟨q1, q2, q3, q4⟩ := k1
                  rcases q4 with q4 | ⟨b, off, e, hlt, hcell⟩
                  · exact ⟨q1, q2, q3, .inl q4⟩
                  · exact ⟨q1, q2, q3, .inr ⟨b, off, e, Nat.lt_of_lt_of_le hlt HG17.out.size, fun i hi => (World.cell?_of_block (hsame b off none e)).trans (hcell i hi)⟩⟩
                · obtain ⟨cs, fr, hc⟩ := h2 b o s e
                  exact ⟨cs, fr, (hsame b o s e).trans hc⟩
              go_roundg gg
              case measure => omega
              case rel => exact ⟨k + 1, qs ++ [⟨C, a', c'⟩], v17, rfl, by omega, by go_num, by rw [HALL.out, HIS.out]; simp, HO17.out, by rw [List.map_append, HQS.out, HP2.out]; rfl, (fun x hx => by
                rcases List.mem_append.1 hx with hx | hx
                · exact hgr x (HOK16.out x hx).1 (HOK16.out x hx).2
                · rw [List.mem_singleton] at hx; subst hx; exact hgr _ ⟨HS16.out, hnN, hwN⟩ HT16.out), hcb, Nat.le_trans HBZ16.out HG17.out.size⟩
end Go.Proofs.YtjkmnanadeffnaaDoor
