/- The contract of the document's own Like of layer 9, of two equal routes that hold none. -/
import Derived.Test.YtpcenhaieicejabDoorRteM
import Derived.Test.YtpcenhaieicejabDoorMatKR
import Derived.Test.YtpcenhaieicejabDoorRteD
import Derived.Deep.RegionHeld3
import Derived.Deep.CutBlock
namespace Go.Proofs.YtpcenhaieicejabDoor
open Go.RowKit

theorem likeM_refl (m : Mat) : likeM m m = true := by simp [likeM]
set_option maxHeartbeats 12800000 in
set_option maxRecDepth 100000 in
theorem rLikeFlat_any (q1 q2 : RtAt) (e : q1.n = q2.n) (hk : q1.n.kids = []) (w : World) (o1 : q1.own w) (o2 : q2.own w) :
    Calls Tryd.prog 13 #[.agg (tCells q1), .agg (tCells q2)] w (BoolB true w) := by
  obtain ⟨m, ma1, mc1, ba1, bc1, ua1, uc1, ka1, kc1⟩ := q1
  obtain ⟨m2, ma2, mc2, ba2, bc2, ua2, uc2, ka2, kc2⟩ := q2
  simp only at e hk
  subst e
  obtain ⟨hM1, hB1, hU1, _, _, hl1, _, _⟩ := o1
  obtain ⟨hM2, hB2, hU2, _, _, hl2, _, _⟩ := o2
  simp only [tCells] at *
  have hz : m.kids.length = 0 := by rw [hk]; rfl
  simp only [hz]
  obtain ⟨C1, hC1⟩ : ∃ C1 : Array Value, C1 = #[.string m.recv, .slice ma1 m.ms.length mc1, .slice ba1 m.bys.length bc1, .int .i64 m.wait, .int .i64 m.every, .int .i64 m.rep, .slice ua1 m.mute.length uc1, .bool m.on, .slice ka1 0 kc1] := ⟨_, rfl⟩
  obtain ⟨C2, hC2⟩ : ∃ C2 : Array Value, C2 = #[.string m.recv, .slice ma2 m.ms.length mc2, .slice ba2 m.bys.length bc2, .int .i64 m.wait, .int .i64 m.every, .int .i64 m.rep, .slice ua2 m.mute.length uc2, .bool m.on, .slice ka2 0 kc2] := ⟨_, rfl⟩
  have hb1 := (Below.refl w.heap.size w).alloc (Nat.le_refl _) (.cells C1 26)
  have hz1 : (w.alloc (.cells C1 26)).heap.size = w.heap.size + 1 := by simp
  have hb := hb1.alloc (by omega) (.cells C2 26)
  have hA := (Blk.new w 26 C1).alloc (.cells C2 26)
  have hD := Blk.new (w.alloc (.cells C1 26)) 26 C2
  rw [hz1] at hD
  have HM1 := Lib.hid hM1
  have HM2 := Lib.hid hM2
  have HSB := Lib.hid (fun W (hW : Below w.heap.size w W) => same_any ba1 ba2 bc1 bc2 m.bys m.bys W (hB1.call hW) (hB2.call hW))
  have HSU := Lib.hid (fun W (hW : Below w.heap.size w W) => same_any ua1 ua2 uc1 uc2 m.mute m.mute W (hU1.call hW) (hU2.call hW))
  rw [decide_eq_true (rfl : m.bys = m.bys)] at HSB
  rw [decide_eq_true (rfl : m.mute = m.mute)] at HSU
  have HLK := Lib.hid (fun W v v' x (h : HasMat W v x) (h' : HasMat W v' x) => rLike_any v v' x x W h h')
  simp only [likeM_refl] at HLK
  have hmc := hM1.2.1
  have hmc2 := hM2.2.1
  have hml := hM1.1
  have hml2 := hM2.1
  unfold maxLen at hmc hmc2
  have HB := Lib.hid hb
  clear hM1 hM2 hB1 hB2 hU1 hU2 hb1 hz1 hb hk hz
  subst hC1 hC2
  have HAC := Lib.hid (fun W (hW : Below ((w.alloc (.cells #[.string m.recv, .slice ma1 m.ms.length mc1, .slice ba1 m.bys.length bc1, .int .i64 m.wait, .int .i64 m.every, .int .i64 m.rep, .slice ua1 m.mute.length uc1, .bool m.on, .slice ka1 0 kc1] 26)).alloc (.cells #[.string m.recv, .slice ma2 m.ms.length mc2, .slice ba2 m.bys.length bc2, .int .i64 m.wait, .int .i64 m.every, .int .i64 m.rep, .slice ua2 m.mute.length uc2, .bool m.on, .slice ka2 0 kc2] 26)).heap.size ((w.alloc (.cells #[.string m.recv, .slice ma1 m.ms.length mc1, .slice ba1 m.bys.length bc1, .int .i64 m.wait, .int .i64 m.every, .int .i64 m.rep, .slice ua1 m.mute.length uc1, .bool m.on, .slice ka1 0 kc1] 26)).alloc (.cells #[.string m.recv, .slice ma2 m.ms.length mc2, .slice ba2 m.bys.length bc2, .int .i64 m.wait, .int .i64 m.every, .int .i64 m.rep, .slice ua2 m.mute.length uc2, .bool m.on, .slice ka2 0 kc2] 26)) W) => (hA.call hW).cells9)
  have HDC := Lib.hid (fun W (hW : Below ((w.alloc (.cells #[.string m.recv, .slice ma1 m.ms.length mc1, .slice ba1 m.bys.length bc1, .int .i64 m.wait, .int .i64 m.every, .int .i64 m.rep, .slice ua1 m.mute.length uc1, .bool m.on, .slice ka1 0 kc1] 26)).alloc (.cells #[.string m.recv, .slice ma2 m.ms.length mc2, .slice ba2 m.bys.length bc2, .int .i64 m.wait, .int .i64 m.every, .int .i64 m.rep, .slice ua2 m.mute.length uc2, .bool m.on, .slice ka2 0 kc2] 26)).heap.size ((w.alloc (.cells #[.string m.recv, .slice ma1 m.ms.length mc1, .slice ba1 m.bys.length bc1, .int .i64 m.wait, .int .i64 m.every, .int .i64 m.rep, .slice ua1 m.mute.length uc1, .bool m.on, .slice ka1 0 kc1] 26)).alloc (.cells #[.string m.recv, .slice ma2 m.ms.length mc2, .slice ba2 m.bys.length bc2, .int .i64 m.wait, .int .i64 m.every, .int .i64 m.rep, .slice ua2 m.mute.length uc2, .bool m.on, .slice ka2 0 kc2] 26)) W) => (hD.call hW).cells9)
  clear hA hD
  go_enter Tryd.func13, Tryd.ntmps13
  go_upto_region 1 with fail
  generalize (w.alloc (.cells #[.string m.recv, .slice ma1 m.ms.length mc1, .slice ba1 m.bys.length bc1, .int .i64 m.wait, .int .i64 m.every, .int .i64 m.rep, .slice ua1 m.mute.length uc1, .bool m.on, .slice ka1 0 kc1] 26)).alloc (.cells #[.string m.recv, .slice ma2 m.ms.length mc2, .slice ba2 m.bys.length bc2, .int .i64 m.wait, .int .i64 m.every, .int .i64 m.rep, .slice ua2 m.mute.length uc2, .bool m.on, .slice ka2 0 kc2] 26) = wx at *
  obtain ⟨c0, c1, c2, c3, c4, c5, c6, c7, c8⟩ := HAC.out _ (Below.refl _ _)
  obtain ⟨d0, d1, d2, d3, d4, d5, d6, d7, d8⟩ := HDC.out _ (Below.refl _ _)
  go_upto_block 0 with fail
  clear c0 c1 c2 c3 c4 c5 c6 c7 c8 d0 d1 d2 d3 d4 d5 d6 d7 d8
  go_cut [61] (fun _ wy => Below wx.heap.size wx wy)
  case first =>
    obtain ⟨c0, c1, c2, c3, c4, c5, c6, c7, c8⟩ := HAC.out _ (Below.refl _ _)
    by_cases hz : m.ms.length = 0
    · rw [hz] at c1
      go_wp2_with fail
      refine wp_loop_rounds 1 ?_
      rw [rounds_succ]
      go_wp2_with fail
      go_meet
      exact Below.refl _ _
    · obtain ⟨b1, o1, rfl, hk1⟩ : ∃ b off, ma1 = some ⟨b, off, none⟩ ∧ ∀ i (h : i < m.ms.length), ∃ x y,
          (w.cell? ⟨b, off + i * 3, none⟩ = some (.string m.ms[i].name) ∧ w.cell? ⟨b, off + i * 3 + 1, none⟩ = some (.int .i64 m.ms[i].how) ∧ w.cell? ⟨b, off + i * 3 + 2, none⟩ = some (.slice x m.ms[i].words.length y)) ∧
          HasStrs w x y m.ms[i].words ∧ m.ms[i].name.size ≤ maxLen ∧ (Lit.int .i64 m.ms[i].how).wf = true := by
        rcases HM1.out.2.2 with h | ⟨b, off, h1, _, h3⟩
        · exact absurd (by rw [h]; rfl) hz
        · exact ⟨b, off, h1, h3⟩
      obtain ⟨b2, o2, rfl, hk2⟩ : ∃ b off, ma2 = some ⟨b, off, none⟩ ∧ ∀ i (h : i < m.ms.length), ∃ x y,
          (w.cell? ⟨b, off + i * 3, none⟩ = some (.string m.ms[i].name) ∧ w.cell? ⟨b, off + i * 3 + 1, none⟩ = some (.int .i64 m.ms[i].how) ∧ w.cell? ⟨b, off + i * 3 + 2, none⟩ = some (.slice x m.ms[i].words.length y)) ∧
          HasStrs w x y m.ms[i].words ∧ m.ms[i].name.size ≤ maxLen ∧ (Lit.int .i64 m.ms[i].how).wf = true := by
        rcases HM2.out.2.2 with h | ⟨b, off, h1, _, h3⟩
        · exact absurd (by rw [h]; rfl) hz
        · exact ⟨b, off, h1, h3⟩
      have HK1 := Lib.hid hk1
      have HK2 := Lib.hid hk2
      clear hk1 hk2 HM1 HM2 c0 c2 c3 c4 c5 c6 c7 c8
      go_wp2_with fail
      clear c1
      go_loopg [61, 5] m.ms.length (fun gg iv _ wr => ∃ k : Nat, k + gg = m.ms.length ∧ iv = .int .i64 (k : Int) ∧ Below wx.heap.size wx wr)
      case atStart => exact ⟨0, by omega, rfl, Below.refl _ _⟩
      case round =>
        obtain ⟨k, hkg, rfl, hbr⟩ := hrel
        cases gk with
        | zero =>
          obtain rfl : k = m.ms.length := by omega
          go_wp2_with fail
          go_meet
          exact hbr
        | succ gg =>
          have hkl : k < m.ms.length := by omega
          obtain ⟨x1, y1, ⟨p0, p1, p2⟩, p3, p4, p5⟩ := HK1.out k hkl
          obtain ⟨x2, y2, ⟨q0, q1, q2⟩, q3, q4, q5⟩ := HK2.out k hkl
          generalize m.ms[k] = x at *
          have hbw := bthen HB.out hbr
          have hm1 : HasMat wr (.agg (matCells x1 y1 x)) x := ⟨x1, y1, rfl, p3.call hbw, p4, p5⟩
          have hm2 : HasMat wr (.agg (matCells x2 y2 x)) x := ⟨x2, y2, rfl, q3.call hbw, q4, q5⟩
          have hlk := HLK.out wr.drew _ _ x (hm1.call (Below.refl _ _).drew) (hm2.call (Below.refl _ _).drew)
          have HKP := Lib.hid (fun W (hW : Below wr.heap.size wr W) => (⟨(HAC.out W (bthen hbr hW)).2.1, (HDC.out W (bthen hbr hW)).2.1, cellL (bthen hbw hW) p0, cellL (bthen hbw hW) p1, cellL (bthen hbw hW) p2, cellL (bthen hbw hW) q0, cellL (bthen hbw hW) q1, cellL (bthen hbw hW) q2⟩ : W.cell? ⟨w.heap.size, 1, none⟩ = some (.slice (some ⟨b1, o1, none⟩) m.ms.length mc1) ∧ W.cell? ⟨w.heap.size + 1, 1, none⟩ = some (.slice (some ⟨b2, o2, none⟩) m.ms.length mc2) ∧ W.cell? ⟨b1, o1 + k * 3, none⟩ = some (.string x.name) ∧ W.cell? ⟨b1, o1 + k * 3 + 1, none⟩ = some (.int .i64 x.how) ∧ W.cell? ⟨b1, o1 + k * 3 + 2, none⟩ = some (.slice x1 x.words.length y1) ∧ W.cell? ⟨b2, o2 + k * 3, none⟩ = some (.string x.name) ∧ W.cell? ⟨b2, o2 + k * 3 + 1, none⟩ = some (.int .i64 x.how) ∧ W.cell? ⟨b2, o2 + k * 3 + 2, none⟩ = some (.slice x2 x.words.length y2)))
          have HBR := Lib.hid hbr
          have HLKK := Lib.hid hlk
          clear hbr hbw hm1 hm2 hlk p0 p1 p2 p3 p4 p5 q0 q1 q2 q3 q4 q5 HK1 HK2 HAC HDC
          simp only [matCells] at *
          go_upto_region 6 with fail
          go_region_held3 (fun w' => w'.cell? ⟨w.heap.size, 1, none⟩ = some (.slice (some ⟨b1, o1, none⟩) m.ms.length mc1) ∧ w'.cell? ⟨w.heap.size + 1, 1, none⟩ = some (.slice (some ⟨b2, o2, none⟩) m.ms.length mc2) ∧ w'.cell? ⟨b1, o1 + k * 3, none⟩ = some (.string x.name) ∧ w'.cell? ⟨b1, o1 + k * 3 + 1, none⟩ = some (.int .i64 x.how) ∧ w'.cell? ⟨b1, o1 + k * 3 + 2, none⟩ = some (.slice x1 x.words.length y1) ∧ w'.cell? ⟨b2, o2 + k * 3, none⟩ = some (.string x.name) ∧ w'.cell? ⟨b2, o2 + k * 3 + 1, none⟩ = some (.int .i64 x.how) ∧ w'.cell? ⟨b2, o2 + k * 3 + 2, none⟩ = some (.slice x2 x.words.length y2))
            (first | exact HKP.out _ (Below.refl _ _).drew | exact HKP.out _ (bthen (Below.refl _ _).drew hb3))
            (first | (go_at_call 31; refine HLKK.out.mono ?_; rintro e w3 ⟨rfl, hb3⟩))
          all_goals
            have hb4 := bthen HBR.out (bthen (Below.refl _ _).drew hb3)
            go_wp2_with fail
            go_roundg gg
            case measure => omega
            case rel => exact ⟨k + 1, by omega, by go_num, hb4⟩
  case rest =>
    obtain ⟨wy, hwy⟩ : ∃ W, W = wc := ⟨_, rfl⟩
    subst hwy
    obtain ⟨c0, c1, c2, c3, c4, c5, c6, c7, c8⟩ := HAC.out _ hcut
    obtain ⟨d0, d1, d2, d3, d4, d5, d6, d7, d8⟩ := HDC.out _ hcut
    go_wp2_with fail
    refine wp_loop_rounds 1 ?_
    rw [rounds_succ]
    go_wp2_with (first
      | (go_at_call 19; (with_reducible refine (HSB.out _ (bthen HB.out hcut)).mono ?_); rintro e w3 ⟨rfl, hb3⟩; obtain ⟨f0, f1, f2, f3, f4, f5, f6, f7, f8⟩ := HAC.out _ (bthen hcut hb3); obtain ⟨g0, g1, g2, g3, g4, g5, g6, g7, g8⟩ := HDC.out _ (bthen hcut hb3))
      | (go_at_call 19; (with_reducible refine (HSU.out _ (bthen HB.out (bthen hcut hb3))).mono ?_); rintro e w4 ⟨rfl, hb4⟩))
    go_ret
    exact ⟨rfl, bthen HB.out (bthen hcut (bthen hb3 hb4))⟩
end Go.Proofs.YtpcenhaieicejabDoor
