/- The contract of the document's own Like of layer 9, of any two routes. -/
import Derived.Test.YtmhehojjlacfoaaDoorMg1
import Derived.Test.YtmhehojjlacfoaaDoorMatKR
import Derived.Test.YtmhehojjlacfoaaDoorSameR
import Derived.Test.YtmhehojjlacfoaaDoorMg3
import Derived.Deep.RegionHeld3
import Derived.Deep.CutBlock
import Derived.Test.YtmhehojjlacfoaaDoorLabB
import Derived.Test.YtmhehojjlacfoaaDoorRteA
import Derived.Test.YtmhehojjlacfoaaDoorBlkG
import Derived.Deep.RegionWith
import Derived.Test.YtmhehojjlacfoaaDoorLater
import Derived.IntWalk
import Derived.Test.YtmhehojjlacfoaaDoorRteM
namespace Go.Proofs.YtmhehojjlacfoaaDoor
open Go.RowKit

def Lk9 (w0 : World) (q : RtAt) : Prop := ∀ (p : RtAt) (w : World), p.ok w → Below w0.heap.size w0 w → Calls Tryd.prog 11 #[.agg (tCells q), .agg (tCells p)] w (BoolB (eqB (q.n = p.n)) w)
theorem bne_no {α : Type} [BEq α] [LawfulBEq α] {a b : α} (h : (a != b) = false) : a = b := by simpa using h
set_option maxHeartbeats 12800000 in
set_option maxRecDepth 100000 in
theorem lk9_step {w0 : World} (q : RtAt) (hqo : q.own w0) (hkc : q.n.kids.length ≤ q.kc ∧ q.kc ≤ maxLen) (hpl : q.n.kids = [] ∨ ∃ b off, q.ka = some ⟨b, off, none⟩ ∧ b < w0.heap.size ∧ ∀ i (h : i < q.n.kids.length), ∃ r : RtAt, r.n = q.n.kids[i] ∧ r.lies w0 b (off + i * 9) ∧ r.ok w0 ∧ Lk9 w0 r) : Lk9 w0 q := by
  intro p w hp hw
  have hq := hqo.call hw
  have hpo := hp.own
  have hpp := hp.place
  have hkp := hp.head.2
  have hb := balR (o := .cells (tCells q) 26) (Below.refl w.heap.size w)
  have hb2 := balR (o := .cells (tCells p) 26) hb
  have hB := (Blk.new w 26 (tCells q)).alloc (.cells (tCells p) 26)
  have hP := nbR w (.cells (tCells q) 26) (tCells p) 26
  have hsb := fun W (hW : Below w.heap.size w W) => same_any q.ba p.ba q.bc p.bc q.n.bys p.n.bys W (hq.2.1.call hW) (hpo.2.1.call hW)
  have hsu := fun W (hW : Below w.heap.size w W) => same_any q.ua p.ua q.uc p.uc q.n.mute p.n.mute W (hq.2.2.1.call hW) (hpo.2.2.1.call hW)
  obtain ⟨R, hR⟩ : ∃ R, eqB (q.n = p.n) = R := ⟨_, rfl⟩
  rw [hR]
  have gR : ∀ P : Prop, (q.n = p.n → P) → ¬ P → R = false := fun P h hn => by rw [← hR]; exact eqB_no (fun e => hn (h e))
  obtain ⟨C1, hC1⟩ : ∃ B, decide (q.n.bys = p.n.bys) = B := ⟨_, rfl⟩
  obtain ⟨C2, hC2⟩ : ∃ B, decide (q.n.mute = p.n.mute) = B := ⟨_, rfl⟩
  rw [hC1] at hsb
  rw [hC2] at hsu
  have gF : q.n.recv = p.n.recv → q.n.wait = p.n.wait → q.n.every = p.n.every → q.n.rep = p.n.rep → q.n.on = p.n.on → q.n.ms = p.n.ms → q.n.kids = p.n.kids → R = (C1 && C2) := fun e1 e2 e3 e4 e5 e6 e7 => by
    rw [← hR, ← hC1, ← hC2, ← eqB_dec, ← eqB_dec, ← eqB_and]
    congr 1
    refine propext ((alone_ext _ _).trans ⟨fun h => ⟨h.1.2.2.1, h.1.2.2.2.2.2.2.1⟩, fun h => ⟨⟨e1, e6, h.1, e2, e3, e4, h.2, e5⟩, e7⟩⟩)
  obtain ⟨B1, hB1⟩ : ∃ B, decide (q.n.recv = p.n.recv) = B := ⟨_, rfl⟩
  have f1 : (q.n.recv.toList == p.n.recv.toList) = B1 := by rw [strEq, hB1]
  obtain ⟨D2, e2⟩ : ∃ B, (q.n.wait != p.n.wait) = B := ⟨_, rfl⟩
  obtain ⟨D3, e3⟩ : ∃ B, (q.n.every != p.n.every) = B := ⟨_, rfl⟩
  obtain ⟨D4, e4⟩ : ∃ B, (q.n.rep != p.n.rep) = B := ⟨_, rfl⟩
  have G1 := Lib.hid (show B1 = false → R = false from fun e => gR _ (fun h => by rw [h]) (of_decide_eq_false (hB1.trans e)))
  have G2 := Lib.hid (show D2 = true → R = false from fun e => gR _ (fun h => by rw [h]) (bne_iff_ne.1 (e2.trans e)))
  have G3 := Lib.hid (show D3 = true → R = false from fun e => gR _ (fun h => by rw [h]) (bne_iff_ne.1 (e3.trans e)))
  have G4 := Lib.hid (show D4 = true → R = false from fun e => gR _ (fun h => by rw [h]) (bne_iff_ne.1 (e4.trans e)))
  have G5 := Lib.hid (show q.n.on ≠ p.n.on → R = false from fun e => gR _ (fun h => by rw [h]) e)
  have G6 := Lib.hid (show q.n.ms ≠ p.n.ms → R = false from fun e => gR _ (fun h => by rw [h]) e)
  have G7 := Lib.hid (show q.n.kids ≠ p.n.kids → R = false from fun e => gR _ (fun h => by rw [h]) e)
  have GF := Lib.hid (show B1 = true → D2 = false → D3 = false → D4 = false → q.n.on = p.n.on → q.n.ms = p.n.ms → q.n.kids = p.n.kids → R = (C1 && C2) from fun a1 a2 a3 a4 a5 a6 a7 => gF (of_decide_eq_true (hB1.trans a1)) (bne_no (e2.trans a2)) (bne_no (e3.trans a3)) (bne_no (e4.trans a4)) a5 a6 a7)
  have HSB := Lib.hid hsb
  have HSU := Lib.hid hsu
  have HB := Lib.hid hb2
  have HM1 := Lib.hid hq.1
  have HM2 := Lib.hid hpo.1
  have hmc := hq.1.2.1
  have hmc2 := hpo.1.2.1
  have hml := hq.1.1
  have hml2 := hpo.1.1
  have HPL := Lib.hid hpl
  have HPP := Lib.hid hpp
  have HW := Lib.hid hw
  obtain ⟨hk1, hk2⟩ := hkc
  obtain ⟨hk3, hk4⟩ := hkp
  unfold maxLen at hmc hmc2 hk2 hk4
  clear hsb hsu hb hb2 hR gR gF hC1 hC2 hB1 hq hpo hqo hp hw hpl hpp
  obtain ⟨n, ma1, mc1, ba1, bc1, ua1, uc1, ka1, kc1⟩ := q
  obtain ⟨m, ma2, mc2, ba2, bc2, ua2, uc2, ka2, kc2⟩ := p
  simp only [tCells] at *
  go_enter Tryd.func11, Tryd.ntmps11
  go_upto_region 1 with fail
  obtain ⟨g, hg⟩ : ∃ g, w.heap.size = g := ⟨_, rfl⟩
  generalize (w.alloc (.cells #[.string n.recv, .slice ma1 n.ms.length mc1, .slice ba1 n.bys.length bc1, .int .i64 n.wait, .int .i64 n.every, .int .i64 n.rep, .slice ua1 n.mute.length uc1, .bool n.on, .slice ka1 n.kids.length kc1] 26)).alloc (.cells #[.string m.recv, .slice ma2 m.ms.length mc2, .slice ba2 m.bys.length bc2, .int .i64 m.wait, .int .i64 m.every, .int .i64 m.rep, .slice ua2 m.mute.length uc2, .bool m.on, .slice ka2 m.kids.length kc2] 26) = wx at *
  rw [hg] at hB hP ⊢
  clear hg
  have HAC := Lib.hid (fun W (hW : Below wx.heap.size wx W) => (hB.call hW).cells9)
  have HDC := Lib.hid (fun W (hW : Below wx.heap.size wx W) => (hP.call hW).cells9)
  obtain ⟨c0, c1, c2, c3, c4, c5, c6, c7, c8⟩ := hB.cells9
  obtain ⟨d0, d1, d2, d3, d4, d5, d6, d7, d8⟩ := hP.cells9
  clear hB hP
  cases B1
  case false =>
    obtain rfl := G1.out rfl
    clear G1 G2 G3 G4 G5 GF G6 G7
    go_wp2_with fail
    go_ret
    exact ⟨rfl, HB.out⟩
  cases D2
  case true =>
    obtain rfl := G2.out rfl
    clear G1 G2 G3 G4 G5 GF G6 G7
    go_wp2_with fail
    go_ret
    exact ⟨rfl, HB.out⟩
  cases D3
  case true =>
    obtain rfl := G3.out rfl
    clear G1 G2 G3 G4 G5 GF G6 G7
    go_wp2_with fail
    go_ret
    exact ⟨rfl, HB.out⟩
  cases D4
  case true =>
    obtain rfl := G4.out rfl
    clear G1 G2 G3 G4 G5 GF G6 G7
    go_wp2_with fail
    go_ret
    exact ⟨rfl, HB.out⟩
  by_cases hO : n.on = m.on
  case neg =>
    obtain rfl := G5.out hO
    have hO2 : (n.on = true ∧ m.on = false) ∨ (n.on = false ∧ m.on = true) := by
      cases h1 : n.on <;> cases h2 : m.on <;> first | (exact absurd (h1.trans h2.symm) hO) | simp
    clear G1 G2 G3 G4 G5 GF G6 G7 hO HAC HDC
    generalize n.on = O1 at *
    generalize m.on = O2 at *
    rcases hO2 with ⟨rfl, rfl⟩ | ⟨rfl, rfl⟩
    all_goals
      go_wp2_with fail
      go_ret
      exact ⟨rfl, HB.out⟩
  have GF2 := Lib.hid (GF.out rfl rfl rfl rfl hO)
  obtain ⟨O, hO1⟩ : ∃ O, n.on = O := ⟨_, rfl⟩
  have hO2 : m.on = O := by rw [← hO, hO1]
  rw [hO1] at c7 HAC
  rw [hO2] at d7 HDC
  clear GF G1 G2 G3 G4 G5 hO hO1 hO2
  by_cases hl : n.ms.length = m.ms.length
  case neg =>
    have f6 := natNeR hl
    obtain rfl : R = false := G6.out (fun e => hl (by rw [e]))
    clear hl
    go_wp2_with fail
    go_ret
    exact ⟨rfl, HB.out⟩
  by_cases hl2 : n.kids.length = m.kids.length
  case neg =>
    have f6 := natEqR hl
    have f7 := natNeR hl2
    obtain rfl : R = false := G7.out (fun e => hl2 (by rw [e]))
    clear hl2 hl
    go_wp2_with fail
    go_ret
    exact ⟨rfl, HB.out⟩
  have f6 := natEqR hl
  have f7 := natEqR hl2
  obtain ⟨I, hI, hgood, hend⟩ := rowsP n.ms m.ms hl
  obtain ⟨J, hJ, hgood2, hend2⟩ := rowsP n.kids m.kids hl2
  have HGI := Lib.hid hgood
  have HEI := Lib.hid hend
  have HGJ := Lib.hid hgood2
  have HEJ := Lib.hid hend2
  have HIL := Lib.hid hl
  have HJL := Lib.hid hl2
  clear hgood hend hl hgood2 hend2 hl2
  go_wp2_with fail
  clear c0 c1 c2 c3 c4 c5 c6 c7 c8 d0 d1 d2 d3 d4 d5 d6 d7 d8 f6 f7 f1 e2 e3 e4
  go_loopg [61, 5] n.ms.length (fun gg iv _ wr => ∃ k : Nat, k + gg = n.ms.length ∧ k ≤ I ∧ iv = .int .i64 (k : Int) ∧ Below wx.heap.size wx wr)
  case atStart => exact ⟨0, by omega, Nat.zero_le _, rfl, Below.refl _ _⟩
  case round =>
    obtain ⟨k, hkg, hkI, rfl, hbr⟩ := hrel
    cases gk with
    | succ gg =>
      have hkl : k < n.ms.length := by omega
      have hkm : k < m.ms.length := by have := HIL.out; omega
      obtain ⟨b1, o1, rfl, x1, y1, ⟨p0, p1, p2⟩, p3, p4, p5⟩ : ∃ b off, ma1 = some ⟨b, off, none⟩ ∧ ∃ x y,
          (w.cell? ⟨b, off + k * 3, none⟩ = some (.string n.ms[k].name) ∧ w.cell? ⟨b, off + k * 3 + 1, none⟩ = some (.int .i64 n.ms[k].how) ∧ w.cell? ⟨b, off + k * 3 + 2, none⟩ = some (.slice x n.ms[k].words.length y)) ∧
          HasStrs w x y n.ms[k].words ∧ n.ms[k].name.size ≤ maxLen ∧ (Lit.int .i64 n.ms[k].how).wf = true := by
        rcases HM1.out.2.2 with h | ⟨b, off, h1, _, h3⟩
        · rw [h] at hkl; simp at hkl
        · exact ⟨b, off, h1, h3 k hkl⟩
      obtain ⟨b2, o2, rfl, x2, y2, ⟨q0, q1, q2⟩, q3, q4, q5⟩ : ∃ b off, ma2 = some ⟨b, off, none⟩ ∧ ∃ x y,
          (w.cell? ⟨b, off + k * 3, none⟩ = some (.string m.ms[k].name) ∧ w.cell? ⟨b, off + k * 3 + 1, none⟩ = some (.int .i64 m.ms[k].how) ∧ w.cell? ⟨b, off + k * 3 + 2, none⟩ = some (.slice x m.ms[k].words.length y)) ∧
          HasStrs w x y m.ms[k].words ∧ m.ms[k].name.size ≤ maxLen ∧ (Lit.int .i64 m.ms[k].how).wf = true := by
        rcases HM2.out.2.2 with h | ⟨b, off, h1, _, h3⟩
        · rw [h] at hkm; simp at hkm
        · exact ⟨b, off, h1, h3 k hkm⟩
      have hrr : k = I → n.ms[k] ≠ m.ms[k] ∧ R = false := fun e => by
        rcases HEI.out with ⟨h1, _⟩ | ⟨_, _, h3, h4⟩
        · omega
        · subst e
          exact ⟨h3, G6.out h4⟩
      have hgg : k ≠ I → n.ms[k] = m.ms[k] := fun e => HGI.out k hkl hkm (by omega)
      generalize n.ms[k] = x at *
      generalize m.ms[k] = y at *
      have hbw := bthen HB.out hbr
      have hm1 : HasMat wr (.agg (matCells x1 y1 x)) x := ⟨x1, y1, rfl, p3.call hbw, p4, p5⟩
      have hm2 : HasMat wr (.agg (matCells x2 y2 y)) y := ⟨x2, y2, rfl, q3.call hbw, q4, q5⟩
      have hlk := rLike_any _ _ x y wr.drew (hm1.call (Below.refl _ _).drew) (hm2.call (Below.refl _ _).drew)
      rw [likeM_eq] at hlk
      obtain ⟨X, hX⟩ : ∃ X, eqB (x = y) = X := ⟨_, rfl⟩
      rw [hX] at hlk
      have HKP := Lib.hid (fun W (hW : Below wr.heap.size wr W) => (⟨(HAC.out W (bthen hbr hW)).2.1, (HDC.out W (bthen hbr hW)).2.1, cellL (bthen hbw hW) p0, cellL (bthen hbw hW) p1, cellL (bthen hbw hW) p2, cellL (bthen hbw hW) q0, cellL (bthen hbw hW) q1, cellL (bthen hbw hW) q2⟩ : W.cell? ⟨g, 1, none⟩ = some (.slice (some ⟨b1, o1, none⟩) n.ms.length mc1) ∧ W.cell? ⟨g + 1, 1, none⟩ = some (.slice (some ⟨b2, o2, none⟩) m.ms.length mc2) ∧ W.cell? ⟨b1, o1 + k * 3, none⟩ = some (.string x.name) ∧ W.cell? ⟨b1, o1 + k * 3 + 1, none⟩ = some (.int .i64 x.how) ∧ W.cell? ⟨b1, o1 + k * 3 + 2, none⟩ = some (.slice x1 x.words.length y1) ∧ W.cell? ⟨b2, o2 + k * 3, none⟩ = some (.string y.name) ∧ W.cell? ⟨b2, o2 + k * 3 + 1, none⟩ = some (.int .i64 y.how) ∧ W.cell? ⟨b2, o2 + k * 3 + 2, none⟩ = some (.slice x2 y.words.length y2)))
      have HBR := Lib.hid hbr
      have HLKK := Lib.hid hlk
      have HX := Lib.hid hX
      clear hbr hbw hm1 hm2 hlk p0 p1 p2 p3 p4 p5 q0 q1 q2 q3 q4 q5 hX HM1 HM2
      simp only [matCells] at *
      by_cases hkI2 : k = I
      · obtain ⟨hne, rfl⟩ := hrr hkI2
        obtain rfl : X = false := by rw [← HX.out]; exact eqB_no hne
        clear hrr hgg hkI2 hkI hne
        go_upto_region 6 with fail
        go_region_held3 (fun w' => w'.cell? ⟨g, 1, none⟩ = some (.slice (some ⟨b1, o1, none⟩) n.ms.length mc1) ∧ w'.cell? ⟨g + 1, 1, none⟩ = some (.slice (some ⟨b2, o2, none⟩) m.ms.length mc2) ∧ w'.cell? ⟨b1, o1 + k * 3, none⟩ = some (.string x.name) ∧ w'.cell? ⟨b1, o1 + k * 3 + 1, none⟩ = some (.int .i64 x.how) ∧ w'.cell? ⟨b1, o1 + k * 3 + 2, none⟩ = some (.slice x1 x.words.length y1) ∧ w'.cell? ⟨b2, o2 + k * 3, none⟩ = some (.string y.name) ∧ w'.cell? ⟨b2, o2 + k * 3 + 1, none⟩ = some (.int .i64 y.how) ∧ w'.cell? ⟨b2, o2 + k * 3 + 2, none⟩ = some (.slice x2 y.words.length y2))
          (first | exact HKP.out _ (Below.refl _ _).drew | exact HKP.out _ (bthen (Below.refl _ _).drew hb3))
          (first | (go_at_call 26; refine HLKK.out.mono ?_; rintro e w3 ⟨rfl, hb3⟩))
        all_goals
          have hb4 := bthen HB.out (bthen HBR.out (bthen (Below.refl _ _).drew hb3))
          go_wp2_with fail
          go_ret
          exact ⟨rfl, hb4⟩
      · obtain rfl := hgg hkI2
        obtain rfl : X = true := by rw [← HX.out]; exact eqB_yes rfl
        clear hrr hgg
        go_upto_region 6 with fail
        go_region_held3 (fun w' => w'.cell? ⟨g, 1, none⟩ = some (.slice (some ⟨b1, o1, none⟩) n.ms.length mc1) ∧ w'.cell? ⟨g + 1, 1, none⟩ = some (.slice (some ⟨b2, o2, none⟩) m.ms.length mc2) ∧ w'.cell? ⟨b1, o1 + k * 3, none⟩ = some (.string x.name) ∧ w'.cell? ⟨b1, o1 + k * 3 + 1, none⟩ = some (.int .i64 x.how) ∧ w'.cell? ⟨b1, o1 + k * 3 + 2, none⟩ = some (.slice x1 x.words.length y1) ∧ w'.cell? ⟨b2, o2 + k * 3, none⟩ = some (.string x.name) ∧ w'.cell? ⟨b2, o2 + k * 3 + 1, none⟩ = some (.int .i64 x.how) ∧ w'.cell? ⟨b2, o2 + k * 3 + 2, none⟩ = some (.slice x2 x.words.length y2))
          (first | exact HKP.out _ (Below.refl _ _).drew | exact HKP.out _ (bthen (Below.refl _ _).drew hb3))
          (first | (go_at_call 26; refine HLKK.out.mono ?_; rintro e w3 ⟨rfl, hb3⟩))
        all_goals
          have hb4 := bthen HBR.out (bthen (Below.refl _ _).drew hb3)
          go_wp2_with fail
          go_roundg gg
          case measure => omega
          case rel => exact ⟨k + 1, by omega, by omega, by go_num, hb4⟩
    | zero =>
      obtain rfl : k = n.ms.length := by omega
      have hms : n.ms = m.ms := by
        rcases HEI.out with ⟨_, e⟩ | ⟨h1, _, _, _⟩
        · exact e
        · omega
      have GF3 := Lib.hid (GF2.out hms)
      have c8 := (HAC.out wr hbr).2.2.2.2.2.2.2.2
      have HBR0 := Lib.hid hbr
      clear hms HEI HGI HM1 HM2 hkg hkI hI hbr
      obtain ⟨wz, hwz⟩ : ∃ W, W = wr := ⟨_, rfl⟩
      subst hwz
      go_wp2_with fail
      clear c8
      go_loopg [80, 6] n.kids.length (fun gg iv _ wr => ∃ k : Nat, k + gg = n.kids.length ∧ k ≤ J ∧ iv = .int .i64 (k : Int) ∧ Below wx.heap.size wx wr)
      case atStart => exact ⟨0, by omega, Nat.zero_le _, rfl, HBR0.out⟩
      case round =>
        obtain ⟨k, hkg, hkI, rfl, hbr⟩ := hrel
        cases gk with
        | zero =>
          obtain rfl : k = n.kids.length := by omega
          have hks : n.kids = m.kids := by
            rcases HEJ.out with ⟨_, e⟩ | ⟨h1, _, _, _⟩
            · exact e
            · omega
          have hRR := GF3.out hks
          obtain ⟨c0, c1, c2, c3, c4, c5, c6, c7, c8⟩ := HAC.out _ hbr
          obtain ⟨d0, d1, d2, d3, d4, d5, d6, d7, d8⟩ := HDC.out _ hbr
          have HBR := Lib.hid hbr
          have HRR := Lib.hid hRR
          clear hks hRR hbr GF2 GF3
          cases C1 with
          | false =>
            go_wp2_with (go_at_call 27; (with_reducible refine (HSB.out _ (bthen HB.out HBR.out)).mono ?_); rintro e w3 ⟨rfl, hb3⟩)
            go_ret
            exact ⟨by rw [HRR.out]; rfl, bthen HB.out (bthen HBR.out hb3)⟩
          | true =>
            go_wp2_with (first
              | (go_at_call 27; (with_reducible refine (HSB.out _ (bthen HB.out HBR.out)).mono ?_); rintro e w3 ⟨rfl, hb3⟩; obtain ⟨f0, f1, f2, f3, f4, f5, f6, f7, f8⟩ := HAC.out _ (bthen HBR.out hb3); obtain ⟨g0, g1, g2, g3, g4, g5, g6, g7, g8⟩ := HDC.out _ (bthen HBR.out hb3))
              | (go_at_call 27; (with_reducible refine (HSU.out _ (bthen HB.out (bthen HBR.out hb3))).mono ?_); rintro e w4 ⟨rfl, hb4⟩))
            go_ret
            exact ⟨by rw [HRR.out]; rfl, bthen HB.out (bthen HBR.out (bthen hb3 hb4))⟩
        | succ gg =>
          have hkl : k < n.kids.length := by omega
          have hkm : k < m.kids.length := by have := HJL.out; omega
          obtain ⟨b1, o1, rfl, r, hrn, hrl, _, hrM⟩ : ∃ b off, ka1 = some ⟨b, off, none⟩ ∧ ∃ r : RtAt, r.n = n.kids[k] ∧ r.lies w0 b (off + k * 9) ∧ r.ok w0 ∧ Lk9 w0 r := by
            rcases HPL.out with h | ⟨b, off, h1, _, h3⟩
            · rw [h] at hkl; simp at hkl
            · exact ⟨b, off, h1, h3 k hkl⟩
          obtain ⟨b2, o2, rfl, s, hsn, hsl, hso⟩ : ∃ b off, ka2 = some ⟨b, off, none⟩ ∧ ∃ r : RtAt, r.n = m.kids[k] ∧ r.lies w b (off + k * 9) ∧ r.ok w := by
            rcases HPP.out with h | ⟨b, off, h1, _, h3⟩
            · rw [h] at hkm; simp at hkm
            · exact ⟨b, off, h1, h3 k hkm⟩
          have hrr : k = J → r.n ≠ s.n ∧ R = false := fun e => by
            rcases HEJ.out with ⟨h1, _⟩ | ⟨_, _, h3, h4⟩
            · omega
            · subst e
              rw [hrn, hsn]
              exact ⟨h3, G7.out h4⟩
          have hgg : k ≠ J → r.n = s.n := fun e => by rw [hrn, hsn]; exact HGJ.out k hkl hkm (by omega)
          have hbw := bthen HB.out hbr
          have hM := hrM s wr.drew (hso.call (bthen hbw (Below.refl _ _).drew)) (bthen (bthen HW.out hbw) (Below.refl _ _).drew)
          obtain ⟨X, hX⟩ : ∃ X, eqB (r.n = s.n) = X := ⟨_, rfl⟩
          rw [hX] at hM
          have hry : k = J → X = false ∧ R = false := fun e => ⟨by rw [← hX]; exact eqB_no (hrr e).1, (hrr e).2⟩
          have hgy : k ≠ J → X = true := fun e => by rw [← hX]; exact eqB_yes (hgg e)
          have HKP := Lib.hid (fun W (hW : Below wr.heap.size wr W) => (show W.cell? ⟨g, 8, none⟩ = some (.slice (some ⟨b1, o1, none⟩) n.kids.length kc1) ∧ W.cell? ⟨g + 1, 8, none⟩ = some (.slice (some ⟨b2, o2, none⟩) m.kids.length kc2) ∧ r.lies W b1 (o1 + k * 9) ∧ s.lies W b2 (o2 + k * 9) from ⟨(HAC.out W (bthen hbr hW)).2.2.2.2.2.2.2.2, (HDC.out W (bthen hbr hW)).2.2.2.2.2.2.2.2, hrl.call (bthen (bthen HW.out hbw) hW), hsl.call (bthen hbw hW)⟩))
          have HBR := Lib.hid hbr
          have HMM := Lib.hid hM
          clear hbr hbw hM hX hrr hgg hrn hsn hrl hsl hso hrM
          obtain ⟨r, ra, rc, rba, rbc, rua, ruc, qa, qc⟩ := r
          obtain ⟨s, sa, sc, sba, sbc, sua, suc, pa, pc⟩ := s
          simp only [tCells, RtAt.lies] at *
          by_cases hkI2 : k = J
          · obtain ⟨rfl, rfl⟩ := hry hkI2
            clear hry hgy hkI2 hkI
            go_upto_region 12 with fail
            go_region_held3 (fun w' => w'.cell? ⟨g, 8, none⟩ = some (.slice (some ⟨b1, o1, none⟩) n.kids.length kc1) ∧ w'.cell? ⟨g + 1, 8, none⟩ = some (.slice (some ⟨b2, o2, none⟩) m.kids.length kc2) ∧ (w'.cell? ⟨b1, o1 + k * 9, none⟩ = some (.string r.recv) ∧ w'.cell? ⟨b1, o1 + k * 9 + 1, none⟩ = some (.slice ra r.ms.length rc) ∧ w'.cell? ⟨b1, o1 + k * 9 + 2, none⟩ = some (.slice rba r.bys.length rbc) ∧ w'.cell? ⟨b1, o1 + k * 9 + 3, none⟩ = some (.int .i64 r.wait) ∧
  w'.cell? ⟨b1, o1 + k * 9 + 4, none⟩ = some (.int .i64 r.every) ∧ w'.cell? ⟨b1, o1 + k * 9 + 5, none⟩ = some (.int .i64 r.rep) ∧ w'.cell? ⟨b1, o1 + k * 9 + 6, none⟩ = some (.slice rua r.mute.length ruc) ∧ w'.cell? ⟨b1, o1 + k * 9 + 7, none⟩ = some (.bool r.on) ∧ w'.cell? ⟨b1, o1 + k * 9 + 8, none⟩ = some (.slice qa r.kids.length qc)) ∧
  (w'.cell? ⟨b2, o2 + k * 9, none⟩ = some (.string s.recv) ∧ w'.cell? ⟨b2, o2 + k * 9 + 1, none⟩ = some (.slice sa s.ms.length sc) ∧ w'.cell? ⟨b2, o2 + k * 9 + 2, none⟩ = some (.slice sba s.bys.length sbc) ∧ w'.cell? ⟨b2, o2 + k * 9 + 3, none⟩ = some (.int .i64 s.wait) ∧
  w'.cell? ⟨b2, o2 + k * 9 + 4, none⟩ = some (.int .i64 s.every) ∧ w'.cell? ⟨b2, o2 + k * 9 + 5, none⟩ = some (.int .i64 s.rep) ∧ w'.cell? ⟨b2, o2 + k * 9 + 6, none⟩ = some (.slice sua s.mute.length suc) ∧ w'.cell? ⟨b2, o2 + k * 9 + 7, none⟩ = some (.bool s.on) ∧ w'.cell? ⟨b2, o2 + k * 9 + 8, none⟩ = some (.slice pa s.kids.length pc)))
              (first | exact HKP.out _ (Below.refl _ _).drew | exact HKP.out _ (bthen (Below.refl _ _).drew hb3))
              (first | (go_at_call 11; refine HMM.out.mono ?_; rintro e w3 ⟨rfl, hb3⟩))
            all_goals
              have hb4 := bthen HB.out (bthen HBR.out (bthen (Below.refl _ _).drew hb3))
              go_wp2_with fail
              go_ret
              exact ⟨rfl, hb4⟩
          · obtain rfl := hgy hkI2
            clear hry hgy
            go_upto_region 12 with fail
            go_region_held3 (fun w' => w'.cell? ⟨g, 8, none⟩ = some (.slice (some ⟨b1, o1, none⟩) n.kids.length kc1) ∧ w'.cell? ⟨g + 1, 8, none⟩ = some (.slice (some ⟨b2, o2, none⟩) m.kids.length kc2) ∧ (w'.cell? ⟨b1, o1 + k * 9, none⟩ = some (.string r.recv) ∧ w'.cell? ⟨b1, o1 + k * 9 + 1, none⟩ = some (.slice ra r.ms.length rc) ∧ w'.cell? ⟨b1, o1 + k * 9 + 2, none⟩ = some (.slice rba r.bys.length rbc) ∧ w'.cell? ⟨b1, o1 + k * 9 + 3, none⟩ = some (.int .i64 r.wait) ∧
  w'.cell? ⟨b1, o1 + k * 9 + 4, none⟩ = some (.int .i64 r.every) ∧ w'.cell? ⟨b1, o1 + k * 9 + 5, none⟩ = some (.int .i64 r.rep) ∧ w'.cell? ⟨b1, o1 + k * 9 + 6, none⟩ = some (.slice rua r.mute.length ruc) ∧ w'.cell? ⟨b1, o1 + k * 9 + 7, none⟩ = some (.bool r.on) ∧ w'.cell? ⟨b1, o1 + k * 9 + 8, none⟩ = some (.slice qa r.kids.length qc)) ∧
  (w'.cell? ⟨b2, o2 + k * 9, none⟩ = some (.string s.recv) ∧ w'.cell? ⟨b2, o2 + k * 9 + 1, none⟩ = some (.slice sa s.ms.length sc) ∧ w'.cell? ⟨b2, o2 + k * 9 + 2, none⟩ = some (.slice sba s.bys.length sbc) ∧ w'.cell? ⟨b2, o2 + k * 9 + 3, none⟩ = some (.int .i64 s.wait) ∧
  w'.cell? ⟨b2, o2 + k * 9 + 4, none⟩ = some (.int .i64 s.every) ∧ w'.cell? ⟨b2, o2 + k * 9 + 5, none⟩ = some (.int .i64 s.rep) ∧ w'.cell? ⟨b2, o2 + k * 9 + 6, none⟩ = some (.slice sua s.mute.length suc) ∧ w'.cell? ⟨b2, o2 + k * 9 + 7, none⟩ = some (.bool s.on) ∧ w'.cell? ⟨b2, o2 + k * 9 + 8, none⟩ = some (.slice pa s.kids.length pc)))
              (first | exact HKP.out _ (Below.refl _ _).drew | exact HKP.out _ (bthen (Below.refl _ _).drew hb3))
              (first | (go_at_call 11; refine HMM.out.mono ?_; rintro e w3 ⟨rfl, hb3⟩))
            all_goals
              have hb4 := bthen HBR.out (bthen (Below.refl _ _).drew hb3)
              go_wp2_with fail
              go_roundg gg
              case measure => omega
              case rel => exact ⟨k + 1, by omega, by omega, by go_num, hb4⟩
theorem like9_any {w0 : World} {q : RtAt} (h : q.ok w0) : Lk9 w0 q := by
  induction h with
  | flat q h0 h1 => exact lk9_step q h0.1 h0.2 (.inl h1)
  | row q b off R h0 h1 h2 h3 h4 h5 ih => exact lk9_step q h0.1 h0.2 (.inr ⟨b, off, h1, h2, fun i hi => ⟨R i, h3 i hi, h4 i hi, h5 i hi, ih i hi⟩⟩)
end Go.Proofs.YtmhehojjlacfoaaDoor
/- The contracts of the document's own 'in' and 'ordered' of layer 9. -/
namespace Go.Proofs.YtmhehojjlacfoaaDoor
open Go.RowKit

/-- each is greater than the one ahead of it -/
def ordT : List ByteArray → Bool
  | [] => true
  | [_] => true
  | a :: b :: t => lessB a.data.toList b.data.toList && ordT (b :: t)
theorem ord_end : ∀ (l : List ByteArray), ∃ J, 1 ≤ J ∧ (∀ k (h : k < l.length) (h1 : 1 ≤ k), k < J → lessB (l[k - 1]'(by omega)).data.toList l[k].data.toList = true) ∧
    ((l.length ≤ J ∧ ordT l = true) ∨ ∃ (h : J < l.length), lessB (l[J - 1]'(by omega)).data.toList l[J].data.toList = false ∧ ordT l = false)
  | [] => ⟨1, Nat.le_refl _, fun k h => by simp at h, .inl ⟨by simp, rfl⟩⟩
  | [a] => ⟨1, Nat.le_refl _, fun k h h1 => by simp at h; omega, .inl ⟨by simp, rfl⟩⟩
  | a :: b :: t => by
    cases e : lessB a.data.toList b.data.toList with
    | false => exact ⟨1, Nat.le_refl _, fun k h h1 hk => by omega, .inr ⟨by simp, e, by simp [ordT, e]⟩⟩
    | true =>
      obtain ⟨J, h1, h2, h3⟩ := ord_end (b :: t)
      refine ⟨J + 1, by omega, fun k hk hk1 hkJ => ?_, ?_⟩
      · match k, hk1 with
        | 1, _ => exact e
        | k + 2, _ => exact h2 (k + 1) (by simpa using hk) (by omega) (by omega)
      · rcases h3 with ⟨g1, g2⟩ | ⟨g1, g2, g3⟩
        · exact .inl ⟨by simpa using g1, by simp [ordT, e, g2]⟩
        · refine .inr ⟨by simpa using g1, ?_, by simp [ordT, e, g3]⟩
          match J, h1, g1, g2 with
          | J + 1, _, g1, g2 => exact g2
set_option maxRecDepth 100000 in
theorem rIn09_any (a b : Int) (w : World) : Calls Tryd.prog 66 #[.int .i64 a, .int .i64 b] w (BoolS (decide (b ≤ a) && decide (a ≤ 1099511627776)) w) := by
  by_cases h1 : b ≤ a
  · by_cases h2 : a ≤ 1099511627776
    · rw [decide_eq_true h1, decide_eq_true h2]
      go_enter Tryd.func66, Tryd.ntmps66
      go_wp2_with fail
      go_ret
      exact ⟨rfl, rfl⟩
    · rw [decide_eq_true h1, decide_eq_false h2]
      go_enter Tryd.func66, Tryd.ntmps66
      go_wp2_with fail
      go_ret
      exact ⟨rfl, rfl⟩
  · rw [decide_eq_false h1]
    go_enter Tryd.func66, Tryd.ntmps66
    go_wp2_with fail
    go_ret
    exact ⟨rfl, rfl⟩
set_option maxHeartbeats 6400000 in
set_option maxRecDepth 100000 in
theorem rOrd_any (a : Option Addr) (c : Nat) (ss : List ByteArray) (w : World) (h : HasStrs w a c ss) : Calls Tryd.prog 65 #[.slice a ss.length c] w (BoolW (ordT ss && decide (ss.length ≤ 8)) w) := by
  obtain ⟨h1, h2, h3, h4⟩ := h
  unfold maxLen at h2
  obtain ⟨J, hJ1, hJ2, hJ3⟩ := ord_end ss
  have H3 := Lib.hid h3
  have H4 := Lib.hid h4
  have HJ2 := Lib.hid hJ2
  have HJ3 := Lib.hid hJ3
  clear h3 h4 hJ2 hJ3
  go_enter Tryd.func65, Tryd.ntmps65
  go_wp2_with fail
  go_loopg [3] (max ss.length 1 - 1) (fun gg iv wr => ∃ j : Nat, j + 1 + gg = max ss.length 1 ∧ iv = .int .i64 ((j : Int) + 1) ∧ j + 1 ≤ J ∧ Below w.heap.size w wr)
  case atStart => exact ⟨0, by omega, rfl, by omega, Below.refl _ _⟩
  case round =>
    obtain ⟨j, hjg, rfl, hjJ, hbr⟩ := hrel
    cases gk with
    | zero =>
      have hO : ordT ss = true := by
        rcases HJ3.out with ⟨_, e⟩ | ⟨g1, _, _⟩
        · exact e
        · omega
      have HO := Lib.hid hO
      have hx : decide (((j : Int) + 1) < (ss.length : Int)) = false := decide_eq_false (by omega)
      have hy : decide ((ss.length : Int) ≤ 8) = decide (ss.length ≤ 8) := by rw [Bool.eq_iff_iff, decide_eq_true_iff, decide_eq_true_iff]; omega
      have HBR := Lib.hid hbr
      clear hO hbr
      generalize decide (ss.length ≤ 8) = B at *
      go_wp2_with fail
      go_ret
      exact ⟨by rw [HO.out]; rfl, HBR.out⟩
    | succ gg =>
      have hjl : j + 1 < ss.length := by omega
      obtain ⟨b, off, rfl, hbl, hc⟩ : ∃ b off, a = some ⟨b, off, none⟩ ∧ b < w.heap.size ∧ ∀ i (h : i < ss.length), w.cell? ⟨b, off + i, none⟩ = some (.string ss[i]) := by
        rcases H4.out with h | h
        · rw [h] at hjl; simp at hjl
        · exact h
      have hc0 := fun W (hW : Below wr.heap.size wr W) => cellL (bthen hbr hW) (hc j (by omega))
      have hc1 := fun W (hW : Below wr.heap.size wr W) => cellL (bthen hbr hW) (hc (j + 1) hjl)
      have hs0 := H3.out _ (List.getElem_mem (show j < ss.length by omega))
      have hs1 := H3.out _ (List.getElem_mem hjl)
      have hgo : j + 1 < J → lessB ss[j].data.toList ss[j + 1].data.toList = true := fun e => HJ2.out (j + 1) hjl (by omega) e
      have hno : j + 1 = J → lessB ss[j].data.toList ss[j + 1].data.toList = false ∧ ordT ss = false := fun e => by
        rcases HJ3.out with ⟨g1, _⟩ | ⟨g1, g2, g3⟩
        · omega
        · subst e
          exact ⟨g2, g3⟩
      generalize ss[j] = x at *
      generalize ss[j + 1] = y at *
      have hls := fun W => rLess_any x y W hs0 hs1
      generalize lessB x.data.toList y.data.toList = X at *
      have HLS := Lib.hid hls
      have HBR := Lib.hid hbr
      have c0 := hc0 wr.drew (below_drewN (Below.refl _ _) 1)
      have c1 := hc1 wr.drew (below_drewN (Below.refl _ _) 1)
      have c2 := hc0 wr (Below.refl _ _)
      have c3 := hc1 wr (Below.refl _ _)
      clear hls hbr hc hc0 hc1 hs0 hs1
      have hd : decide (((j : Int) + 1) < (ss.length : Int)) = true := decide_eq_true (by omega)
      have q1 : (j : Int) < (ss.length : Int) := by omega
      have q2 : (j : Int) + 1 < (ss.length : Int) := by omega
      have q3 : (0 : Int) ≤ (j : Int) + 1 := by omega
      have q4 : (j : Int) + 1 - 1 = (j : Int) := by omega
      have e2 : IntKind.i64.wrap ((j : Int) + 1 - 1) = (j : Int) := by rw [IntWalk.i64_in _ (by omega)]; omega
      have hl0 := fun x => later_cell c2 x
      have hl1 := fun x => later_cell c3 x
      by_cases hjJ2 : j + 1 = J
      · obtain ⟨rfl, hno2⟩ := hno hjJ2
        have HN2 := Lib.hid hno2
        clear hno hgo hno2 hjJ2 hjJ
        go_upto_region 4 with fail
        refine wp_region_later (by kernel_rfl) (by kernel_rfl) ?_
        repeat (go_big_quiet_step (first | (go_at_call 32; exact calls_later_drew (HLS.out _))))
        refine wpQuiet_nil ?_
        rintro _ ⟨x, rfl⟩
        have hb2 := HBR.out.trans ((later_below wr x).mono HBR.out.size)
        generalize later wr x = w2 at *
        clear hl0 hl1 c0 c1 c2 c3
        go_wp2_with fail
        go_ret
        exact ⟨by rw [HN2.out]; rfl, hb2⟩
      · obtain rfl := hgo (by omega)
        clear hno hgo
        go_upto_region 4 with fail
        refine wp_region_later (by kernel_rfl) (by kernel_rfl) ?_
        repeat (go_big_quiet_step (first | (go_at_call 32; exact calls_later_drew (HLS.out _))))
        refine wpQuiet_nil ?_
        rintro _ ⟨x, rfl⟩
        have hb2 := HBR.out.trans ((later_below wr x).mono HBR.out.size)
        generalize later wr x = w2 at *
        clear hl0 hl1 c0 c1 c2 c3
        go_wp2_with fail
        go_roundg gg
        case measure => omega
        case rel => exact ⟨j + 1, by omega, by go_num, by omega, hb2⟩
end Go.Proofs.YtmhehojjlacfoaaDoor
/- Which routes may be, said as the document's own answer asks it. Mathematics alone. -/
namespace Go.Proofs.YtmhehojjlacfoaaDoor

theorem ordT_iff : ∀ (l : List ByteArray), ordT l = true ↔ ∀ j (h : j + 1 < l.length), lessB l[j].data.toList l[j + 1].data.toList = true
  | [] => by simp [ordT]
  | [_] => by simp [ordT]
  | a :: b :: t => by
    rw [ordT, Bool.and_eq_true, ordT_iff (b :: t)]
    constructor
    · rintro ⟨h1, h2⟩ j hj
      cases j with
      | zero => exact h1
      | succ j => exact h2 j (by simpa using hj)
    · intro h
      exact ⟨h 0 (by simp), fun j hj => h (j + 1) (by simpa using hj)⟩
theorem allU_is (us : List ByteArray) : allU us = (us.all (fun u => bwC u.data.toList) && ordT us) := by
  rw [Bool.eq_iff_iff]
  simp only [allU, List.all_eq_true, List.mem_range, Bool.and_eq_true, ordT_iff]
  constructor
  · intro h
    refine ⟨fun u hu => ?_, fun j hj => ?_⟩
    · obtain ⟨k, hk, rfl⟩ := List.getElem_of_mem hu
      have := h k hk
      cases k with
      | zero => rwa [okU_zero _ hk] at this
      | succ j =>
        rw [okU_succ _ _ hk, Bool.and_eq_true] at this
        exact this.1
    · have := h (j + 1) hj
      rw [okU_succ _ _ hj, Bool.and_eq_true] at this
      exact this.2
  · rintro ⟨h1, h2⟩ k hk
    cases k with
    | zero =>
      rw [okU_zero _ hk]
      exact h1 _ (List.getElem_mem hk)
    | succ j =>
      rw [okU_succ _ _ hk, Bool.and_eq_true]
      exact ⟨h1 _ (List.getElem_mem hk), h2 j hk⟩
theorem valV : valC (⟨#[118]⟩ : ByteArray).data.toList = true := by decide
theorem rightBy_is (bs : List ByteArray) : rightC (byLabs bs) = (bs.all (fun u => nameC u.data.toList) && (ordT bs && decide (bs.length ≤ 8))) := by
  have hl : (byLabs bs).length = bs.length := by simp [byLabs]
  have hg : ∀ k (h : k < (byLabs bs).length), (byLabs bs)[k] = (bs[k]'(by omega), ⟨#[118]⟩) := fun k h => by simp [byLabs]
  have hc : ∀ b : ByteArray, labC (b, ⟨#[118]⟩) = nameC b.data.toList := fun b => by
    unfold labC
    rw [show ((b, (⟨#[118]⟩ : ByteArray)) : Lab).2 = ⟨#[118]⟩ from rfl, valV, Bool.and_true]
  rw [Bool.eq_iff_iff]
  simp only [rightC, List.all_eq_true, List.mem_range, Bool.and_eq_true, ordT_iff, decide_eq_true_eq, hl]
  constructor
  · rintro ⟨h0, h⟩
    refine ⟨fun u hu => ?_, fun j hj => ?_, h0⟩
    · obtain ⟨k, hk, rfl⟩ := List.getElem_of_mem hu
      have := h k hk
      cases k with
      | zero =>
        rw [okAt_zero _ (by omega), hg, hc] at this
        exact this
      | succ j =>
        rw [okAt_succ _ _ (by omega), Bool.and_eq_true, hg, hc] at this
        exact this.1
    · have := h (j + 1) hj
      rw [okAt_succ _ _ (by omega), Bool.and_eq_true, hg, hg] at this
      exact this.2
  · rintro ⟨h1, h2, h0⟩
    refine ⟨h0, fun k hk => ?_⟩
    cases k with
    | zero =>
      rw [okAt_zero _ (by omega), hg, hc]
      exact h1 _ (List.getElem_mem hk)
    | succ j =>
      rw [okAt_succ _ _ (by omega), Bool.and_eq_true, hg, hg, hc]
      exact ⟨h1 _ (List.getElem_mem hk), h2 j hk⟩
/-- may a route be, those within it aside, in the order in which the document's own answer asks -/
theorem alone_is (n : Rt) : aloneC n = (n.ms.all rightM && (n.bys.all (fun u => nameC u.data.toList) && (n.mute.all (fun u => bwC u.data.toList) &&
    (bwC n.recv.data.toList && (decide (n.ms.length ≤ 8) && ((ordT n.bys && decide (n.bys.length ≤ 8)) && ((ordT n.mute && decide (n.mute.length ≤ 8)) && ((decide (0 ≤ n.wait) && decide (n.wait ≤ 1099511627776)) && ((decide (1 ≤ n.every) && decide (n.every ≤ 1099511627776)) && ((decide (1 ≤ n.rep) && decide (n.rep ≤ 1099511627776)) && decide (n.kids.length ≤ 16))))))))))) := by
  unfold aloneC matchC timesC muteC inRt
  rw [allU_is, rightBy_is]
  generalize n.ms.all rightM = a1
  generalize (n.bys.all fun u => nameC u.data.toList) = a2
  generalize (n.mute.all fun u => bwC u.data.toList) = a3
  generalize bwC n.recv.data.toList = a4
  generalize decide (n.ms.length ≤ 8) = a5
  generalize ordT n.bys = a6
  generalize decide (n.bys.length ≤ 8) = a7
  generalize ordT n.mute = a8
  generalize decide (n.mute.length ≤ 8) = a9
  generalize decide (n.kids.length ≤ 16) = b1
  generalize (decide (0 ≤ n.wait) && decide (n.wait ≤ 1099511627776)) = b2
  generalize (decide (1 ≤ n.every) && decide (n.every ≤ 1099511627776)) = b3
  generalize (decide (1 ≤ n.rep) && decide (n.rep ≤ 1099511627776)) = b4
  cases a1 <;> cases a2 <;> cases a3 <;> cases a4 <;> simp only [Bool.true_and, Bool.false_and, Bool.and_false, Bool.and_true] <;> cases a5 <;> cases a6 <;> cases a7 <;> simp only [Bool.true_and, Bool.false_and, Bool.and_false, Bool.and_true] <;> cases a8 <;> cases a9 <;> simp only [Bool.true_and, Bool.false_and, Bool.and_false, Bool.and_true] <;> cases b1 <;> cases b2 <;> cases b3 <;> cases b4 <;> rfl
end Go.Proofs.YtmhehojjlacfoaaDoor
