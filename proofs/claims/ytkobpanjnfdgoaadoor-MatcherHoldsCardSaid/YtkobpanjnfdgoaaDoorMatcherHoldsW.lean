/- The walk of MatcherHolds. -/
import Derived.Test.YtkobpanjnfdgoaaDoorMatJ
import Derived.Test.YtkobpanjnfdgoaaDoorMatK
import Derived.Test.YtkobpanjnfdgoaaDoorMatV
import Derived.Test.YtkobpanjnfdgoaaDoorLater
namespace Go.Proofs.YtkobpanjnfdgoaaDoor
open Go.RowKit Go.Maps

/-- a slice of two matchers that has just been laid -/
theorem hasMats_two (w : World) (a a' : Option Addr) (c c' : Nat) (m m' : Mat) (hs : HasStrs w a c m.words) (h1 : m.name.size ≤ maxLen) (h2 : (Lit.int .i64 m.how).wf = true) (hs' : HasStrs w a' c' m'.words) (h1' : m'.name.size ≤ maxLen) (h2' : (Lit.int .i64 m'.how).wf = true) :
    HasMats (w.alloc (.cells #[.string m.name, .int .i64 m.how, .slice a m.words.length c, .string m'.name, .int .i64 m'.how, .slice a' m'.words.length c'] 25)) (some ⟨w.heap.size, 0, none⟩) 2 [m, m'] := by
  refine ⟨Nat.le_refl _, by unfold maxLen; omega, .inr ⟨w.heap.size, 0, rfl, by simp, fun i hi => ?_⟩⟩
  have hb := (Below.refl w.heap.size w).alloc (Nat.le_refl _) (.cells #[.string m.name, .int .i64 m.how, .slice a m.words.length c, .string m'.name, .int .i64 m'.how, .slice a' m'.words.length c'] 25)
  rcases (by simp at hi; omega : i = 0 ∨ i = 1) with rfl | rfl
  · exact ⟨a, c, ⟨World.cell?_alloc_mark w _ _ (0, 0) 0, World.cell?_alloc_mark w _ _ (0, 0) 1, World.cell?_alloc_mark w _ _ (0, 0) 2⟩, hs.call hb, h1, h2⟩
  · exact ⟨a', c', ⟨World.cell?_alloc_mark w _ _ (0, 0) 3, World.cell?_alloc_mark w _ _ (0, 0) 4, World.cell?_alloc_mark w _ _ (0, 0) 5⟩, hs'.call hb, h1', h2'⟩

theorem holds2_is (ls : List Lab) (A B : Mat) : holdsL ls [A, B] = if rightC ls = true then (if rightM A = true ∧ rightM B = true then (holdsM (getL ls A.name) A && holdsM (getL ls B.name) B, 0) else (false, 1)) else (false, 1) := by
  unfold holdsL
  split
  · by_cases h : rightM A = true ∧ rightM B = true
    · rw [if_pos (by simp [h.1, h.2]), if_pos h]; simp
    · rw [if_neg (by simpa using h), if_neg h]
  · rfl
theorem holds0_is (ls : List Lab) : holdsL ls [] = if rightC ls = true then (true, 0) else (false, 1) := by
  unfold holdsL
  split <;> rfl
theorem like_self (m : Mat) : likeM m m = true := by simp [likeM]

set_option maxHeartbeats 12800000 in
set_option maxRecDepth 100000 in
theorem matcherHolds_walk {w : World} (a0 : Option Addr) (len0 cap0 : Nat) (ls0 : List Lab) (w0 : ls0.length = len0 ∧ HasLabs w a0 cap0 ls0) (v1 : Value) (m1 : Mat) (w1 : HasMat w v1 m1) (v2 : Value) (m2 : Mat) (w2 : HasMat w v2 m2) (hmc : MaxC w) :
    Calls Tryd.prog 3 #[.slice a0 len0 cap0, v1, v2] w fun e w' => e = .returned (.bool true) ∧ Below w.heap.size w w' := by
  obtain ⟨rfl, h0⟩ := w0
  obtain ⟨a1, c1, rfl, hs1, hn1, hwf1⟩ := w1
  obtain ⟨a2, c2, rfl, hs2, hn2, hwf2⟩ := w2
  have H0 := Lib.hid h0
  have H1 := Lib.hid (fun W (hb : Below w.heap.size w W) => (⟨a1, c1, rfl, hs1.call hb, hn1, hwf1⟩ : HasMat W _ m1))
  have H2 := Lib.hid (fun W (hb : Below w.heap.size w W) => (⟨a2, c2, rfl, hs2.call hb, hn2, hwf2⟩ : HasMat W _ m2))
  have HMC := Lib.hid hmc
  have HWF1 := Lib.hid hwf1
  have HWF2 := Lib.hid hwf2
  clear h0 hs1 hn1 hwf1 hs2 hn2 hwf2 hmc
  go_enter Tryd.func3, Tryd.ntmps3
  go_upto_region 1 with fail
  have hB1 := (Blk.new w 25 #[.string m1.name, .int .i64 m1.how, .slice a1 m1.words.length c1]).alloc (.cells #[.string m2.name, .int .i64 m2.how, .slice a2 m2.words.length c2] 25)
  have hB2 := Blk.new (w.alloc (.cells #[.string m1.name, .int .i64 m1.how, .slice a1 m1.words.length c1] 25)) 25 #[.string m2.name, .int .i64 m2.how, .slice a2 m2.words.length c2]
  have hb0 := ((Below.refl _ w).alloc (Nat.le_refl _) (.cells #[.string m1.name, .int .i64 m1.how, .slice a1 m1.words.length c1] 25)).alloc (by simp) (.cells #[.string m2.name, .int .i64 m2.how, .slice a2 m2.words.length c2] 25)
  have e1 : (w.alloc (.cells #[.string m1.name, .int .i64 m1.how, .slice a1 m1.words.length c1] 25)).heap.size = w.heap.size + 1 := by simp
  rw [e1] at hB2
  generalize (w.alloc (.cells #[.string m1.name, .int .i64 m1.how, .slice a1 m1.words.length c1] 25)).alloc (.cells #[.string m2.name, .int .i64 m2.how, .slice a2 m2.words.length c2] 25) = wx at *
  have HB1 := Lib.hid hB1
  have HB2 := Lib.hid hB2
  have HB0 := Lib.hid hb0
  obtain ⟨x0, x1, x2⟩ := hB1.cells3
  obtain ⟨x3, x4, x5⟩ := hB2.cells3
  clear hB1 hB2 hb0 e1
  go_cut [0] (fun l wy => ∃ p q aa ca ab cb, l = .slice p (fewL ls0).length q ∧ HasLabs wy p q (fewL ls0) ∧ Blk wy w.heap.size 25 #[.string (cutM m1).name, .int .i64 (cutM m1).how, .slice aa (cutM m1).words.length ca] ∧ HasStrs wy aa ca (cutM m1).words ∧ Blk wy (w.heap.size + 1) 25 #[.string (cutM m2).name, .int .i64 (cutM m2).how, .slice ab (cutM m2).words.length cb] ∧ HasStrs wy ab cb (cutM m2).words ∧ Below w.heap.size w wy)
  case first =>
    go_region_with (first
      | (go_at_call 9; (with_reducible refine (few_any a0 cap0 ls0 _ ?_).mono ?_); exact H0.out.call HB0.out.drew; rintro e wf ⟨p, q, rfl, hL, hbf⟩; have hkf := HB1.out.drew.call hbf; have hmf := HB2.out.drew.call hbf; obtain ⟨y0, y1, y2⟩ := hkf.cells3; obtain ⟨y3, y4, y5⟩ := hmf.cells3)
      | (go_at_call 10; first
        | ((with_reducible refine (cut_any _ m1 _ ?_).mono ?_); exact H1.out _ (bthen HB0.out.drew hbf); rintro e wc ⟨ac, cc, rfl, hS, hF, hbc⟩; have hkc := hkf.call hbc; have hmc := hmf.call hbc; obtain ⟨y0, y1, y2⟩ := hkc.cells3; obtain ⟨y3, y4, y5⟩ := hmc.cells3)
        | ((with_reducible refine (cut_any _ m2 _ ?_).mono ?_); exact H2.out _ (bthen (bthen HB0.out.drew hbf) hbc); rintro e wd ⟨ad, cd, rfl, hS2, hF2, hbd⟩; have hkd := hkc.call hbd; have hmd := hmc.call hbd; obtain ⟨y0, y1, y2⟩ := hkd.cells3; obtain ⟨y3, y4, y5⟩ := hmd.cells3; have g0 := hkd.frozen 0; have g1 := hkd.frozen 1; have g2 := hkd.frozen 2; have g3 := hmd.frozen 0; have g4 := hmd.frozen 1; have g5 := hmd.frozen 2)))
    all_goals
      go_wp2_with fail
      go_meet
      have hbw := bthen (bthen (bthen HB0.out.drew hbf) hbc) hbd
      have n45 : w.heap.size ≠ w.heap.size + 1 := by omega
      have n54 : w.heap.size + 1 ≠ w.heap.size := by omega
      have hl := (hL.call hbc).call hbd
      have hs := hS.call hbd
      have f1 : ∀ b o s, ac = some ⟨b, o, s⟩ → w.heap.size < b := fun b o s e => Nat.lt_trans hkf.lt (hF b o s e)
      have f2 : ∀ b o s, ac = some ⟨b, o, s⟩ → w.heap.size + 1 < b := fun b o s e => Nat.lt_trans hmf.lt (hF b o s e)
      have f3 : ∀ b o s, ad = some ⟨b, o, s⟩ → w.heap.size < b := fun b o s e => Nat.lt_trans hkc.lt (hF2 b o s e)
      have f4 : ∀ b o s, ad = some ⟨b, o, s⟩ → w.heap.size + 1 < b := fun b o s e => Nat.lt_trans hmc.lt (hF2 b o s e)
      first
      | exact ⟨p, q, ac, cc, ad, cd, rfl, labs_set3 (labs_set3 hl hkd slice_ne _ _ _) (hmd.set3O n54 _ _ _) slice_ne _ _ _, (hkd.set3 _ _ _).set3O n45 _ _ _, (hs.set3F f1 _ _ _).set3F f2 _ _ _, (hmd.set3O n54 _ _ _).set3 _ _ _, (hS2.set3F f3 _ _ _).set3F f4 _ _ _, below_set3 (below_set3 hbw (Nat.le_refl _) _ _ _) (Nat.le_succ _) _ _ _⟩
      | exact ⟨p, q, ac, cc, ad, cd, rfl, labs_set3 (labs_set3 hl hmd slice_ne _ _ _) (hkd.set3O n45 _ _ _) slice_ne _ _ _, (hkd.set3O n45 _ _ _).set3 _ _ _, (hs.set3F f2 _ _ _).set3F f1 _ _ _, (hmd.set3 _ _ _).set3O n54 _ _ _, (hS2.set3F f4 _ _ _).set3F f3 _ _ _, below_set3 (below_set3 hbw (Nat.le_succ _) _ _ _) (Nat.le_refl _) _ _ _⟩
  case rest =>
    clear x0 x1 x2 x3 x4 x5
    obtain ⟨p, q, aa, ca, ab, cb, rfl, hL, hK, hS, hK2, hS2, hb⟩ := hcut
    have hmc2 := HMC.out.call hb
    have hnm : (cutM m1).name.size ≤ maxLen := cutM_name m1
    have hnm2 : (cutM m2).name.size ≤ maxLen := cutM_name m2
    have hwf : (Lit.int .i64 (cutM m1).how).wf = true := HWF1.out
    have hwf2 : (Lit.int .i64 (cutM m2).how).wf = true := HWF2.out
    clear HB1 HB2 HB0 H0 H1 H2 HMC HWF1 HWF2
    generalize fewL ls0 = L at *
    generalize cutM m1 = M at *
    generalize cutM m2 = N at *
    have hm1 : ∀ W, Below wc.heap.size wc W → HasMat W (.agg #[.string M.name, .int .i64 M.how, .slice aa M.words.length ca]) M := fun W hW => ⟨aa, ca, rfl, hS.call hW, hnm, hwf⟩
    have hm2 : ∀ W, Below wc.heap.size wc W → HasMat W (.agg #[.string N.name, .int .i64 N.how, .slice ab N.words.length cb]) N := fun W hW => ⟨ab, cb, rfl, hS2.call hW, hnm2, hwf2⟩
    have hho := holds_any _ _ _ _ _ _ _ (hL.call ((Below.refl _ _).alloc (Nat.le_refl _) (.cells #[.string M.name, .int .i64 M.how, .slice aa M.words.length ca, .string N.name, .int .i64 N.how, .slice ab N.words.length cb] 25))) (hasMats_two wc aa ab ca cb M N hS hnm hwf hS2 hnm2 hwf2) (by show 2 ≤ 1000; decide)
    have hspec := holds2_is L M N
    have hspec0 := holds0_is L
    unfold HoldsPost at hho
    obtain ⟨I, hI⟩ : ∃ I, (holdsL L [M, N]).1 = I := ⟨_, rfl⟩
    obtain ⟨E, hE⟩ : ∃ E, (holdsL L [M, N]).2 = E := ⟨_, rfl⟩
    obtain ⟨I0, hI0⟩ : ∃ I, (holdsL L []).1 = I := ⟨_, rfl⟩
    obtain ⟨E0, hE0⟩ : ∃ E, (holdsL L []).2 = E := ⟨_, rfl⟩
    have HH0 : Hid (∀ W, Below wc.heap.size wc W → Calls Tryd.prog 11 #[.slice p L.length q, .slice none 0 0] W fun e w' => e = .returned (.tuple #[.bool I0, .int .i64 E0]) ∧ Below W.heap.size W w') := Lib.hid (fun W hW => by
      have h := holds_any p none q 0 L [] W (hL.call hW) (HasMats.nil W none 0 (by unfold maxLen; omega)) (by show 0 ≤ 1000; decide)
      unfold HoldsPost at h
      rw [hI0, hE0] at h
      exact h)
    rw [hI, hE] at hho
    have hho2 : Calls Tryd.prog 11 #[.slice p L.length q, .slice (some ⟨wc.heap.size, 0, none⟩) 2 2] (wc.alloc (.cells #[.string M.name, .int .i64 M.how, .slice aa M.words.length ca, .string N.name, .int .i64 N.how, .slice ab N.words.length cb] 25)) fun e w' => e = .returned (.tuple #[.bool I, .int .i64 E]) ∧ Below (wc.alloc (.cells #[.string M.name, .int .i64 M.how, .slice aa M.words.length ca, .string N.name, .int .i64 N.how, .slice ab N.words.length cb] 25)).heap.size (wc.alloc (.cells #[.string M.name, .int .i64 M.how, .slice aa M.words.length ca, .string N.name, .int .i64 N.how, .slice ab N.words.length cb] 25)) w' := hho
    have HH := Lib.hid hho2
    have HI : Hid ((I, E) = holdsL L [M, N]) := Lib.hid (by rw [← hI, ← hE])
    have HI0 : Hid ((I0, E0) = holdsL L []) := Lib.hid (by rw [← hI0, ← hE0])
    have HSP := Lib.hid hspec
    have HSP0 := Lib.hid hspec0
    have hx5 := (Below.refl _ wc).alloc (Nat.le_refl _) (.cells #[.string M.name, .int .i64 M.how, .slice aa M.words.length ca, .string N.name, .int .i64 N.how, .slice ab N.words.length cb] 25)
    have HX5 := Lib.hid hx5
    have HB := Lib.hid hb
    have HK := Lib.hid hK
    have HK2 := Lib.hid hK2
    have HL := Lib.hid hL
    have HM := Lib.hid hmc2
    have HM1 := Lib.hid hm1
    have HM2 := Lib.hid hm2
    obtain ⟨x0, x1, x2⟩ := hK.cells3
    obtain ⟨x3, x4, x5⟩ := hK2.cells3
    clear hho hho2 hspec hspec0 hI hE hI0 hE0 hx5 hb hK hK2 hL hmc2 hm1 hm2 hS hS2 hnm hnm2 hwf hwf2
    go_upto_region 4 with (go_at_call 11; first
      | ((with_reducible refine HH.out.mono ?_); rintro e w5 ⟨rfl, hb5⟩)
      | ((with_reducible refine (HH0.out _ (bthen HX5.out hb5)).mono ?_); rintro e w6 ⟨rfl, hb6⟩))
    have hbt := bthen (bthen HX5.out hb5) hb6
    have HBT := Lib.hid hbt
    have hb7 := bthen HB.out hbt
    have HB7 := Lib.hid hb7
    have HRA := Lib.hid (fun x => mRight_any _ M (later w6 x) ((HM1.out w6 hbt).call (later_below w6 x)))
    have HRR := Lib.hid (fun W (h : Below w6.heap.size w6 W) => r4Right_any _ M W ((HM1.out w6 hbt).call h))
    have HRN := Lib.hid (fun W (h : Below w6.heap.size w6 W) => r4Right_any _ N W ((HM2.out w6 hbt).call h))
    have HLI := Lib.hid (fun x => like_any _ _ M N (later w6 x) ((HM1.out w6 hbt).call (later_below w6 x)) ((HM2.out w6 hbt).call (later_below w6 x)))
    have HLS := Lib.hid (fun x => like_any _ _ M M (later w6 x) ((HM1.out w6 hbt).call (later_below w6 x)) ((HM1.out w6 hbt).call (later_below w6 x)))
    have HRL := Lib.hid (fun x => rLike_any _ _ M N (later w6 x) ((HM1.out w6 hbt).call (later_below w6 x)) ((HM2.out w6 hbt).call (later_below w6 x)))
    have HAL := Lib.hid (fun x => alive_any (later w6 x) ((HM.out.call hbt).call (later_below w6 x)))
    have HRL2 := Lib.hid (fun W (h : Below w6.heap.size w6 W) => rRight_any p q L W ((HL.out.call hbt).call h))
    have HHM := Lib.hid (fun W (h : Below w6.heap.size w6 W) => rHolds_any p q L _ M W ((HL.out.call hbt).call h) ((HM1.out w6 hbt).call h))
    have HHN := Lib.hid (fun W (h : Below w6.heap.size w6 W) => rHolds_any p q L _ N W ((HL.out.call hbt).call h) ((HM2.out w6 hbt).call h))
    rw [like_self] at HLS
    unfold BoolB at HRA HRR HLI HLS HRL HAL
    have HK6 := Lib.hid (HK.out.call hbt)
    have HK7 := Lib.hid (HK2.out.call hbt)
    obtain ⟨x0, x1, x2⟩ := HK6.out.cells3
    obtain ⟨x3, x4, x5⟩ := HK7.out.cells3
    clear hbt hb5 hb6 hb7 HH HH0 HX5 HB HK HK2 HL HM HM1 HM2
    generalize likeM M N = D at *
    obtain ⟨A, hA⟩ : ∃ A, rightM M = A := ⟨_, rfl⟩
    rw [hA] at HRA HRR
    have HA := Lib.hid hA
    have hAA : (A != A) = false := by cases A <;> rfl
    have hDD : (D != D) = false := by cases D <;> rfl
    clear hA
    go_cut [53] (fun cc wz => cc = .bool false ∧ Below w6.heap.size w6 wz)
    case first =>
      have x0l := fun x => later_cell x0 x
      have x1l := fun x => later_cell x1 x
      have x2l := fun x => later_cell x2 x
      have x3l := fun x => later_cell x3 x
      have x4l := fun x => later_cell x4 x
      have x5l := fun x => later_cell x5 x
      clear x0 x1 x2 x3 x4 x5
      clear hAA hDD HA
      cases A <;> cases D
      all_goals
        refine wp_region_later (by kernel_rfl) (by kernel_rfl) ?_
        repeat (go_big_quiet_step (first
          | (go_at_call 12; exact calls_later (HRA.out _))
          | (go_at_call 13; exact calls_later (HRR.out _ (later_below _ _)))
          | (go_at_call 14; first | (with_reducible exact calls_later (HLI.out _)) | (with_reducible exact calls_later (HLS.out _)))
          | (go_at_call 15; exact calls_later (HRL.out _))
          | (go_at_call 16; exact calls_later (HAL.out _))))
        refine wpQuiet_nil ?_
        rintro _ ⟨x, rfl⟩
        have hb2 := later_below w6 x
        generalize later w6 x = w7 at *
        go_wp2_with fail
        go_meet
        exact ⟨rfl, hb2⟩
    case rest =>
      obtain ⟨rfl, hcut⟩ := hcut
      have HB8 := Lib.hid hcut
      obtain ⟨y0, y1, y2⟩ := (HK6.out.call hcut).cells3
      obtain ⟨y3, y4, y5⟩ := (HK7.out.call hcut).cells3
      clear x0 x1 x2 x3 x4 x5 hcut hAA hDD HRA HLI HLS HRL HAL HBT
      obtain ⟨R, hR⟩ : ∃ R, rightC L = R := ⟨_, rfl⟩
      have hsp := HSP.out
      have hsp0 := HSP0.out
      have hi := HI.out
      have hi0 := HI0.out
      rw [hR] at HRL2 hsp hsp0
      rw [HA.out] at hsp
      rw [hsp] at hi
      rw [hsp0] at hi0
      clear hsp hsp0 HSP HSP0 HI HI0 hR
      cases R with
      | false =>
        simp only [Bool.false_eq_true, if_false, Prod.mk.injEq] at hi hi0
        obtain ⟨rfl, rfl⟩ := hi
        obtain ⟨rfl, rfl⟩ := hi0
        go_wp2_with (first
          | (go_at_call 17; (with_reducible refine (HRL2.out _ HB8.out).mono ?_); rintro e w9 ⟨rfl, hb9⟩; have hc9 := bthen HB8.out hb9; obtain ⟨y0, y1, y2⟩ := (HK6.out.call hc9).cells3; obtain ⟨y3, y4, y5⟩ := (HK7.out.call hc9).cells3)
          | (go_at_call 13; first
            | ((with_reducible refine (HRR.out _ hc9).mono ?_); rintro e w10 ⟨rfl, hb10⟩; have hc10 := bthen hc9 hb10; obtain ⟨y0, y1, y2⟩ := (HK6.out.call hc10).cells3; obtain ⟨y3, y4, y5⟩ := (HK7.out.call hc10).cells3)
            | ((with_reducible refine (HRN.out _ hc10).mono ?_); rintro e w11 ⟨rfl, hb11⟩; have hc11 := bthen hc10 hb11; obtain ⟨y0, y1, y2⟩ := (HK6.out.call hc11).cells3; obtain ⟨y3, y4, y5⟩ := (HK7.out.call hc11).cells3))
          | (go_at_call 18; first
            | ((with_reducible refine (HHM.out _ hc11).mono ?_); rintro e w12 ⟨rfl, hb12⟩; have hc12 := bthen hc11 hb12; obtain ⟨y0, y1, y2⟩ := (HK6.out.call hc12).cells3; obtain ⟨y3, y4, y5⟩ := (HK7.out.call hc12).cells3)
            | ((with_reducible refine (HHN.out _ hc12).mono ?_); rintro e w13 ⟨rfl, hb13⟩; have hc13 := bthen hc12 hb13)))
        go_ret
        exact ⟨rfl, bthen HB7.out hc9⟩
      | true =>
        simp only [if_true, Prod.mk.injEq] at hi hi0
        obtain ⟨rfl, rfl⟩ := hi0
        cases A with
        | false =>
          simp only [Bool.false_eq_true, false_and, if_false, Prod.mk.injEq] at hi
          obtain ⟨rfl, rfl⟩ := hi
          go_wp2_with (first
            | (go_at_call 17; (with_reducible refine (HRL2.out _ HB8.out).mono ?_); rintro e w9 ⟨rfl, hb9⟩; have hc9 := bthen HB8.out hb9; obtain ⟨y0, y1, y2⟩ := (HK6.out.call hc9).cells3; obtain ⟨y3, y4, y5⟩ := (HK7.out.call hc9).cells3)
            | (go_at_call 13; first
              | ((with_reducible refine (HRR.out _ hc9).mono ?_); rintro e w10 ⟨rfl, hb10⟩; have hc10 := bthen hc9 hb10; obtain ⟨y0, y1, y2⟩ := (HK6.out.call hc10).cells3; obtain ⟨y3, y4, y5⟩ := (HK7.out.call hc10).cells3)
              | ((with_reducible refine (HRN.out _ hc10).mono ?_); rintro e w11 ⟨rfl, hb11⟩; have hc11 := bthen hc10 hb11; obtain ⟨y0, y1, y2⟩ := (HK6.out.call hc11).cells3; obtain ⟨y3, y4, y5⟩ := (HK7.out.call hc11).cells3))
            | (go_at_call 18; first
              | ((with_reducible refine (HHM.out _ hc11).mono ?_); rintro e w12 ⟨rfl, hb12⟩; have hc12 := bthen hc11 hb12; obtain ⟨y0, y1, y2⟩ := (HK6.out.call hc12).cells3; obtain ⟨y3, y4, y5⟩ := (HK7.out.call hc12).cells3)
              | ((with_reducible refine (HHN.out _ hc12).mono ?_); rintro e w13 ⟨rfl, hb13⟩; have hc13 := bthen hc12 hb13)))
          go_ret
          exact ⟨rfl, bthen HB7.out hc10⟩
        | true =>
          obtain ⟨B, hB⟩ : ∃ B, rightM N = B := ⟨_, rfl⟩
          have HBN := Lib.hid hB
          rw [hB] at HRN hi
          clear hB
          cases B with
          | false =>
            simp only [Bool.false_eq_true, and_false, if_false, Prod.mk.injEq] at hi
            obtain ⟨rfl, rfl⟩ := hi
            go_wp2_with (first
              | (go_at_call 17; (with_reducible refine (HRL2.out _ HB8.out).mono ?_); rintro e w9 ⟨rfl, hb9⟩; have hc9 := bthen HB8.out hb9; obtain ⟨y0, y1, y2⟩ := (HK6.out.call hc9).cells3; obtain ⟨y3, y4, y5⟩ := (HK7.out.call hc9).cells3)
              | (go_at_call 13; first
                | ((with_reducible refine (HRR.out _ hc9).mono ?_); rintro e w10 ⟨rfl, hb10⟩; have hc10 := bthen hc9 hb10; obtain ⟨y0, y1, y2⟩ := (HK6.out.call hc10).cells3; obtain ⟨y3, y4, y5⟩ := (HK7.out.call hc10).cells3)
                | ((with_reducible refine (HRN.out _ hc10).mono ?_); rintro e w11 ⟨rfl, hb11⟩; have hc11 := bthen hc10 hb11; obtain ⟨y0, y1, y2⟩ := (HK6.out.call hc11).cells3; obtain ⟨y3, y4, y5⟩ := (HK7.out.call hc11).cells3))
              | (go_at_call 18; first
                | ((with_reducible refine (HHM.out _ hc11).mono ?_); rintro e w12 ⟨rfl, hb12⟩; have hc12 := bthen hc11 hb12; obtain ⟨y0, y1, y2⟩ := (HK6.out.call hc12).cells3; obtain ⟨y3, y4, y5⟩ := (HK7.out.call hc12).cells3)
                | ((with_reducible refine (HHN.out _ hc12).mono ?_); rintro e w13 ⟨rfl, hb13⟩; have hc13 := bthen hc12 hb13)))
            go_ret
            exact ⟨rfl, bthen HB7.out hc11⟩
          | true =>
            simp only [and_self, if_true, Prod.mk.injEq] at hi
            obtain ⟨hi, rfl⟩ := hi
            rw [← rHoldsM_is HA.out, ← rHoldsM_is HBN.out] at hi
            generalize rHoldsM (getL L M.name) M = X at *
            generalize rHoldsM (getL L N.name) N = Y at *
            cases X with
            | false =>
              rw [Bool.false_and] at hi
              subst hi
              go_wp2_with (first
                | (go_at_call 17; (with_reducible refine (HRL2.out _ HB8.out).mono ?_); rintro e w9 ⟨rfl, hb9⟩; have hc9 := bthen HB8.out hb9; obtain ⟨y0, y1, y2⟩ := (HK6.out.call hc9).cells3; obtain ⟨y3, y4, y5⟩ := (HK7.out.call hc9).cells3)
                | (go_at_call 13; first
                  | ((with_reducible refine (HRR.out _ hc9).mono ?_); rintro e w10 ⟨rfl, hb10⟩; have hc10 := bthen hc9 hb10; obtain ⟨y0, y1, y2⟩ := (HK6.out.call hc10).cells3; obtain ⟨y3, y4, y5⟩ := (HK7.out.call hc10).cells3)
                  | ((with_reducible refine (HRN.out _ hc10).mono ?_); rintro e w11 ⟨rfl, hb11⟩; have hc11 := bthen hc10 hb11; obtain ⟨y0, y1, y2⟩ := (HK6.out.call hc11).cells3; obtain ⟨y3, y4, y5⟩ := (HK7.out.call hc11).cells3))
                | (go_at_call 18; first
                  | ((with_reducible refine (HHM.out _ hc11).mono ?_); rintro e w12 ⟨rfl, hb12⟩; have hc12 := bthen hc11 hb12; obtain ⟨y0, y1, y2⟩ := (HK6.out.call hc12).cells3; obtain ⟨y3, y4, y5⟩ := (HK7.out.call hc12).cells3)
                  | ((with_reducible refine (HHN.out _ hc12).mono ?_); rintro e w13 ⟨rfl, hb13⟩; have hc13 := bthen hc12 hb13)))
              go_ret
              exact ⟨rfl, bthen HB7.out hc12⟩
            | true =>
              rw [Bool.true_and] at hi
              subst hi
              go_wp2_with (first
                | (go_at_call 17; (with_reducible refine (HRL2.out _ HB8.out).mono ?_); rintro e w9 ⟨rfl, hb9⟩; have hc9 := bthen HB8.out hb9; obtain ⟨y0, y1, y2⟩ := (HK6.out.call hc9).cells3; obtain ⟨y3, y4, y5⟩ := (HK7.out.call hc9).cells3)
                | (go_at_call 13; first
                  | ((with_reducible refine (HRR.out _ hc9).mono ?_); rintro e w10 ⟨rfl, hb10⟩; have hc10 := bthen hc9 hb10; obtain ⟨y0, y1, y2⟩ := (HK6.out.call hc10).cells3; obtain ⟨y3, y4, y5⟩ := (HK7.out.call hc10).cells3)
                  | ((with_reducible refine (HRN.out _ hc10).mono ?_); rintro e w11 ⟨rfl, hb11⟩; have hc11 := bthen hc10 hb11; obtain ⟨y0, y1, y2⟩ := (HK6.out.call hc11).cells3; obtain ⟨y3, y4, y5⟩ := (HK7.out.call hc11).cells3))
                | (go_at_call 18; first
                  | ((with_reducible refine (HHM.out _ hc11).mono ?_); rintro e w12 ⟨rfl, hb12⟩; have hc12 := bthen hc11 hb12; obtain ⟨y0, y1, y2⟩ := (HK6.out.call hc12).cells3; obtain ⟨y3, y4, y5⟩ := (HK7.out.call hc12).cells3)
                  | ((with_reducible refine (HHN.out _ hc12).mono ?_); rintro e w13 ⟨rfl, hb13⟩; have hc13 := bthen hc12 hb13)))
              go_ret
              exact ⟨rfl, bthen HB7.out hc13⟩
end Go.Proofs.YtkobpanjnfdgoaaDoor
