/- The contract of the document's own 'one' of layer 9. -/
import Derived.Test.YtmhekhilgllciaaGreatMg15
import Derived.Test.YtmhekhilgllciaaGreatMg4
import Derived.Test.YtmhekhilgllciaaGreatMg11
import Derived.Test.YtmhekhilgllciaaGreatMg12
import Derived.Test.YtmhekhilgllciaaGreatMg5
import Derived.Deep.CutBlock
import Derived.Test.YtmhekhilgllciaaGreatMg13
namespace Go.Proofs.YtmhekhilgllciaaGreat
open Go.RowKit

set_option maxHeartbeats 12800000 in
set_option maxRecDepth 100000 in
theorem one9_any (q : RtAt) (w : World) (hq : q.own w) : Calls Tryz.prog 118 #[.agg (tCells q)] w (BoolB (aloneC q.n) w) := by
  have hb := balR (o := .cells (tCells q) 27) (Below.refl w.heap.size w)
  have hB := Blk.new w 27 (tCells q)
  have hA := alone_is q.n
  obtain ⟨R, hR⟩ : ∃ R, aloneC q.n = R := ⟨_, rfl⟩
  rw [hR] at hA ⊢
  obtain ⟨I, hI, hgood, hend⟩ := all_endB rightM q.n.ms
  obtain ⟨J, hJ, hgood2, hend2⟩ := all_endB (fun u : ByteArray => nameC u.data.toList) q.n.bys
  obtain ⟨K, hK, hgood3, hend3⟩ := all_endB (fun u : ByteArray => bwC u.data.toList) q.n.mute
  have HW := Lib.hid (fun W => rbWord_any q.n.recv W (by have := hq.2.2.2.1; unfold maxLen; omega))
  have HOB := Lib.hid (fun W (hW : Below w.heap.size w W) => rOrd_any q.ba q.bc q.n.bys W (hq.2.1.call hW))
  have HOU := Lib.hid (fun W (hW : Below w.heap.size w W) => rOrd_any q.ua q.uc q.n.mute W (hq.2.2.1.call hW))
  have HI1 := Lib.hid (fun W => rIn09_any q.n.wait 0 W)
  have HI2 := Lib.hid (fun W => rIn09_any q.n.every 1 W)
  have HI3 := Lib.hid (fun W => rIn09_any q.n.rep 1 W)
  have y1 : decide ((q.n.ms.length : Int) ≤ 8) = decide (q.n.ms.length ≤ 8) := by rw [Bool.eq_iff_iff, decide_eq_true_iff, decide_eq_true_iff]; omega
  have y7 : decide ((q.n.kids.length : Int) ≤ 16) = decide (q.n.kids.length ≤ 16) := by rw [Bool.eq_iff_iff, decide_eq_true_iff, decide_eq_true_iff]; omega
  generalize q.n.ms.all rightM = A1 at *
  generalize (q.n.bys.all fun u => nameC u.data.toList) = A2 at *
  generalize (q.n.mute.all fun u => bwC u.data.toList) = A3 at *
  generalize bwC q.n.recv.data.toList = W0 at *
  generalize decide (q.n.ms.length ≤ 8) = W1 at *
  generalize (ordT q.n.bys && decide (q.n.bys.length ≤ 8)) = W2 at *
  generalize (ordT q.n.mute && decide (q.n.mute.length ≤ 8)) = W3 at *
  generalize (decide (0 ≤ q.n.wait) && decide (q.n.wait ≤ 1099511627776)) = W4 at *
  generalize (decide (1 ≤ q.n.every) && decide (q.n.every ≤ 1099511627776)) = W5 at *
  generalize (decide (1 ≤ q.n.rep) && decide (q.n.rep ≤ 1099511627776)) = W6 at *
  generalize decide (q.n.kids.length ≤ 16) = W7 at *
  have HA := Lib.hid hA
  have HGI := Lib.hid hgood
  have HEI := Lib.hid hend
  have HGJ := Lib.hid hgood2
  have HEJ := Lib.hid hend2
  have HGK := Lib.hid hgood3
  have HEK := Lib.hid hend3
  have HB := Lib.hid hb
  have HM := Lib.hid hq.1
  have HN := Lib.hid hq.2.1
  have HU := Lib.hid hq.2.2.1
  have hmc := hq.1.2.1
  have hml := hq.1.1
  have hnc := hq.2.1.2.1
  have hnl := hq.2.1.1
  have huc := hq.2.2.1.2.1
  have hul := hq.2.2.1.1
  unfold maxLen at hmc hnc huc
  clear hA hgood hend hgood2 hend2 hgood3 hend3 hb hq hR
  obtain ⟨n, ma, mc, ba, bc, ua, uc, ka, kc⟩ := q
  simp only [tCells] at *
  go_enter Tryz.func118, Tryz.ntmps118
  go_upto_region 1 with fail
  obtain ⟨g, hg⟩ : ∃ g, w.heap.size = g := ⟨_, rfl⟩
  generalize w.alloc (.cells #[.string n.recv, .slice ma n.ms.length mc, .slice ba n.bys.length bc, .int .i64 n.wait, .int .i64 n.every, .int .i64 n.rep, .slice ua n.mute.length uc, .bool n.on, .slice ka n.kids.length kc] 27) = wx at *
  rw [hg] at hB ⊢
  clear hg
  have HAC := Lib.hid (fun W (hW : Below wx.heap.size wx W) => (hB.call hW).cells9)
  obtain ⟨c0, c1, c2, c3, c4, c5, c6, c7, c8⟩ := hB.cells9
  clear hB
  go_wp2_with fail
  have HY1 := Lib.hid y1
  have HY7 := Lib.hid y7
  clear c0 c1 c2 c3 c4 c5 c6 c7 c8 y1 y7
  go_loopg [12, 4] n.ms.length (fun gg iv _ wr => ∃ k : Nat, k + gg = n.ms.length ∧ k ≤ I ∧ iv = .int .i64 (k : Int) ∧ Below wx.heap.size wx wr)
  case atStart => exact ⟨0, by omega, Nat.zero_le _, rfl, Below.refl _ _⟩
  case round =>
    obtain ⟨k, hkg, hkI, rfl, hbr⟩ := hrel
    cases gk with
    | succ gg =>
      have hkl : k < n.ms.length := by omega
      obtain ⟨b1, o1, rfl, x1, z1, ⟨p0, p1, p2⟩, p3, p4, p5⟩ : ∃ b off, ma = some ⟨b, off, none⟩ ∧ ∃ x y,
          (w.cell? ⟨b, off + k * 3, none⟩ = some (.string n.ms[k].name) ∧ w.cell? ⟨b, off + k * 3 + 1, none⟩ = some (.int .i64 n.ms[k].how) ∧ w.cell? ⟨b, off + k * 3 + 2, none⟩ = some (.slice x n.ms[k].words.length y)) ∧
          HasStrs w x y n.ms[k].words ∧ n.ms[k].name.size ≤ maxLen ∧ (Lit.int .i64 n.ms[k].how).wf = true := by
        rcases HM.out.2.2 with h | ⟨b, off, h1, _, h3⟩
        · rw [h] at hkl; simp at hkl
        · exact ⟨b, off, h1, h3 k hkl⟩
      have hrr : k = I → rightM n.ms[k] = false ∧ R = false := fun e => by
        rcases HEI.out with ⟨h1, _⟩ | ⟨_, h3, h4⟩
        · omega
        · subst e
          exact ⟨h3, by rw [HA.out, h4]; rfl⟩
      have hgg : k ≠ I → rightM n.ms[k] = true := fun e => HGI.out k (by omega) hkl
      generalize n.ms[k] = x at *
      have hbw := bthen HB.out hbr
      have e0 := cellL hbw p0
      have e1 := cellL hbw p1
      have e2 := cellL hbw p2
      have hb1 := balR (o := .cells #[.string x.name, .int .i64 x.how, .slice x1 x.words.length z1] 97) (Below.refl wr.heap.size wr)
      have hA := Blk.new wr 97 #[.string x.name, .int .i64 x.how, .slice x1 x.words.length z1]
      have hM := r4Right_any (.agg #[.string x.name, .int .i64 x.how, .slice x1 x.words.length z1]) x (wr.alloc (.cells #[.string x.name, .int .i64 x.how, .slice x1 x.words.length z1] 97)) ⟨x1, z1, rfl, p3.call (bthen hbw hb1), p4, p5⟩
      obtain ⟨X, hX⟩ : ∃ X, rightM x = X := ⟨_, rfl⟩
      rw [hX] at hM hrr hgg
      have HMM := Lib.hid hM
      have HB1 := Lib.hid (bthen hbr hb1)
      obtain ⟨d0, d1, d2⟩ := hA.cells3
      clear hX hM hA hb1 hbw hbr p0 p1 p2 p3 p4 p5
      by_cases hkI2 : k = I
      · obtain ⟨rfl, rfl⟩ := hrr hkI2
        clear hrr hgg hkI2 hkI
        go_wp2_with (go_at_call 117; refine HMM.out.mono ?_; rintro e w3 ⟨rfl, hb3⟩)
        go_ret
        exact ⟨rfl, bthen HB.out (bthen HB1.out hb3)⟩
      · obtain rfl := hgg hkI2
        clear hrr hgg
        go_wp2_with (go_at_call 117; refine HMM.out.mono ?_; rintro e w3 ⟨rfl, hb3⟩)
        go_roundg gg
        case measure => omega
        case rel => exact ⟨k + 1, by omega, by omega, by go_num, bthen HB1.out hb3⟩
    | zero =>
      obtain rfl : k = n.ms.length := by omega
      obtain rfl : A1 = true := by
        rcases HEI.out with ⟨_, e⟩ | ⟨h1, _⟩
        · exact e
        · omega
      have c2 := (HAC.out wr hbr).2.2.1
      have HBR0 := Lib.hid hbr
      clear HEI HGI HM hkg hkI hI hbr
      obtain ⟨wz, hwz⟩ : ∃ W, W = wr := ⟨_, rfl⟩
      subst hwz
      go_wp2_with fail
      clear c2
      go_loopg [23, 6] n.bys.length (fun gg iv _ wr => ∃ k : Nat, k + gg = n.bys.length ∧ k ≤ J ∧ iv = .int .i64 (k : Int) ∧ Below wx.heap.size wx wr)
      case atStart => exact ⟨0, by omega, Nat.zero_le _, rfl, HBR0.out⟩
      case round =>
        obtain ⟨k, hkg, hkI, rfl, hbr⟩ := hrel
        cases gk with
        | succ gg =>
          have hkl : k < n.bys.length := by omega
          obtain ⟨b1, o1, rfl, p0⟩ : ∃ b off, ba = some ⟨b, off, none⟩ ∧ w.cell? ⟨b, off + k, none⟩ = some (.string n.bys[k]) := by
            rcases HN.out.2.2.2 with h | ⟨b, off, h1, _, h3⟩
            · rw [h] at hkl; simp at hkl
            · exact ⟨b, off, h1, h3 k hkl⟩
          have hs := HN.out.2.2.1 _ (List.getElem_mem hkl)
          have hrr : k = J → nameC n.bys[k].data.toList = false ∧ R = false := fun e => by
            rcases HEJ.out with ⟨h1, _⟩ | ⟨_, h3, h4⟩
            · omega
            · subst e
              exact ⟨h3, by rw [HA.out, h4]; simp only [Bool.false_and, Bool.and_false]⟩
          have hgg : k ≠ J → nameC n.bys[k].data.toList = true := fun e => HGJ.out k (by omega) hkl
          generalize n.bys[k] = x at *
          have e0 := cellL (bthen HB.out hbr) p0
          have hM := fun W => rName_any x W hs
          obtain ⟨X, hX⟩ : ∃ X, nameC x.data.toList = X := ⟨_, rfl⟩
          rw [hX] at hrr hgg
          simp only [hX] at hM
          have HMM := Lib.hid hM
          have HB1 := Lib.hid hbr
          clear hX hM hbr p0 hs
          by_cases hkI2 : k = J
          · obtain ⟨rfl, rfl⟩ := hrr hkI2
            clear hrr hgg hkI2 hkI
            go_wp2_with (go_at_call 75; refine (HMM.out _).mono ?_; rintro e w3 ⟨rfl, rfl⟩)
            go_ret
            exact ⟨rfl, bthen HB.out HB1.out⟩
          · obtain rfl := hgg hkI2
            clear hrr hgg
            go_wp2_with (go_at_call 75; refine (HMM.out _).mono ?_; rintro e w3 ⟨rfl, rfl⟩)
            go_roundg gg
            case measure => omega
            case rel => exact ⟨k + 1, by omega, by omega, by go_num, HB1.out⟩
        | zero =>
          obtain rfl : k = n.bys.length := by omega
          obtain rfl : A2 = true := by
            rcases HEJ.out with ⟨_, e⟩ | ⟨h1, _⟩
            · exact e
            · omega
          have c6 := (HAC.out wr hbr).2.2.2.2.2.2.1
          have HBR0 := Lib.hid hbr
          clear HEJ HGJ HN hkg hkI hJ hbr
          obtain ⟨wz, hwz⟩ : ∃ W, W = wr := ⟨_, rfl⟩
          subst hwz
          go_wp2_with fail
          clear c6
          go_loopg [34, 8] n.mute.length (fun gg iv _ wr => ∃ k : Nat, k + gg = n.mute.length ∧ k ≤ K ∧ iv = .int .i64 (k : Int) ∧ Below wx.heap.size wx wr)
          case atStart => exact ⟨0, by omega, Nat.zero_le _, rfl, HBR0.out⟩
          case round =>
            obtain ⟨k, hkg, hkI, rfl, hbr⟩ := hrel
            cases gk with
            | succ gg =>
              have hkl : k < n.mute.length := by omega
              obtain ⟨b1, o1, rfl, p0⟩ : ∃ b off, ua = some ⟨b, off, none⟩ ∧ w.cell? ⟨b, off + k, none⟩ = some (.string n.mute[k]) := by
                rcases HU.out.2.2.2 with h | ⟨b, off, h1, _, h3⟩
                · rw [h] at hkl; simp at hkl
                · exact ⟨b, off, h1, h3 k hkl⟩
              have hs := HU.out.2.2.1 _ (List.getElem_mem hkl)
              have hrr : k = K → bwC n.mute[k].data.toList = false ∧ R = false := fun e => by
                rcases HEK.out with ⟨h1, _⟩ | ⟨_, h3, h4⟩
                · omega
                · subst e
                  exact ⟨h3, by rw [HA.out, h4]; simp only [Bool.false_and, Bool.and_false]⟩
              have hgg : k ≠ K → bwC n.mute[k].data.toList = true := fun e => HGK.out k (by omega) hkl
              generalize n.mute[k] = x at *
              have e0 := cellL (bthen HB.out hbr) p0
              have hM := fun W => rbWord_any x W hs
              obtain ⟨X, hX⟩ : ∃ X, bwC x.data.toList = X := ⟨_, rfl⟩
              rw [hX] at hrr hgg
              simp only [hX] at hM
              have HMM := Lib.hid hM
              have HB1 := Lib.hid hbr
              clear hX hM hbr p0 hs
              by_cases hkI2 : k = K
              · obtain ⟨rfl, rfl⟩ := hrr hkI2
                clear hrr hgg hkI2 hkI
                go_wp2_with (go_at_call 13; refine (HMM.out _).mono ?_; rintro e w3 ⟨rfl, rfl⟩)
                go_ret
                exact ⟨rfl, bthen HB.out HB1.out⟩
              · obtain rfl := hgg hkI2
                clear hrr hgg
                go_wp2_with (go_at_call 13; refine (HMM.out _).mono ?_; rintro e w3 ⟨rfl, rfl⟩)
                go_roundg gg
                case measure => omega
                case rel => exact ⟨k + 1, by omega, by omega, by go_num, HB1.out⟩
            | zero =>
              obtain rfl : k = n.mute.length := by omega
              obtain rfl : A3 = true := by
                rcases HEK.out with ⟨_, e⟩ | ⟨h1, _⟩
                · exact e
                · omega
              obtain ⟨c0, c1, c2, c3, c4, c5, c6, c7, c8⟩ := HAC.out wr hbr
              have y1 := HY1.out
              have y7 := HY7.out
              have HBR := Lib.hid (bthen HB.out hbr)
              have HBX := Lib.hid hbr
              clear HEK HGK HU hkg hkI hK hbr
              cases W0
              case false =>
                go_wp2_with (first
                  | (go_at_call 13; (with_reducible refine (HW.out _).mono ?_); rintro e w2 ⟨rfl, rfl⟩))
                go_ret
                exact ⟨by rw [HA.out]; rfl, HBR.out⟩
              cases W1
              case false =>
                go_wp2_with (first
                  | (go_at_call 13; (with_reducible refine (HW.out _).mono ?_); rintro e w2 ⟨rfl, rfl⟩))
                go_ret
                exact ⟨by rw [HA.out]; rfl, HBR.out⟩
              cases W2
              case false =>
                go_wp2_with (first
                  | (go_at_call 13; (with_reducible refine (HW.out _).mono ?_); rintro e w2 ⟨rfl, rfl⟩)
                  | (go_at_call 181; (with_reducible refine (HOB.out _ HBR.out).mono ?_); rintro e w3 ⟨rfl, hb3⟩; obtain ⟨x0, x1, x2, x3, x4, x5, x6, x7, x8⟩ := HAC.out _ (bthen HBX.out hb3)))
                go_ret
                exact ⟨by rw [HA.out]; rfl, (bthen HBR.out hb3)⟩
              cases W3
              case false =>
                go_wp2_with (first
                  | (go_at_call 13; (with_reducible refine (HW.out _).mono ?_); rintro e w2 ⟨rfl, rfl⟩)
                  | (go_at_call 181; (with_reducible refine (HOB.out _ HBR.out).mono ?_); rintro e w3 ⟨rfl, hb3⟩; obtain ⟨x0, x1, x2, x3, x4, x5, x6, x7, x8⟩ := HAC.out _ (bthen HBX.out hb3))
                  | (go_at_call 181; (with_reducible refine (HOU.out _ (bthen HBR.out hb3)).mono ?_); rintro e w4 ⟨rfl, hb4⟩; obtain ⟨y0, y1', y2, y3, y4, y5, y6, y7', y8⟩ := HAC.out _ (bthen HBX.out (bthen hb3 hb4))))
                go_ret
                exact ⟨by rw [HA.out]; rfl, (bthen HBR.out (bthen hb3 hb4))⟩
              cases W4
              case false =>
                go_wp2_with (first
                  | (go_at_call 13; (with_reducible refine (HW.out _).mono ?_); rintro e w2 ⟨rfl, rfl⟩)
                  | (go_at_call 181; (with_reducible refine (HOB.out _ HBR.out).mono ?_); rintro e w3 ⟨rfl, hb3⟩; obtain ⟨x0, x1, x2, x3, x4, x5, x6, x7, x8⟩ := HAC.out _ (bthen HBX.out hb3))
                  | (go_at_call 181; (with_reducible refine (HOU.out _ (bthen HBR.out hb3)).mono ?_); rintro e w4 ⟨rfl, hb4⟩; obtain ⟨y0, y1', y2, y3, y4, y5, y6, y7', y8⟩ := HAC.out _ (bthen HBX.out (bthen hb3 hb4)))
                  | (go_at_call 182; (with_reducible refine (HI1.out _).mono ?_); rintro e w5 ⟨rfl, rfl⟩))
                go_ret
                exact ⟨by rw [HA.out]; rfl, (bthen HBR.out (bthen hb3 hb4))⟩
              cases W5
              case false =>
                go_wp2_with (first
                  | (go_at_call 13; (with_reducible refine (HW.out _).mono ?_); rintro e w2 ⟨rfl, rfl⟩)
                  | (go_at_call 181; (with_reducible refine (HOB.out _ HBR.out).mono ?_); rintro e w3 ⟨rfl, hb3⟩; obtain ⟨x0, x1, x2, x3, x4, x5, x6, x7, x8⟩ := HAC.out _ (bthen HBX.out hb3))
                  | (go_at_call 181; (with_reducible refine (HOU.out _ (bthen HBR.out hb3)).mono ?_); rintro e w4 ⟨rfl, hb4⟩; obtain ⟨y0, y1', y2, y3, y4, y5, y6, y7', y8⟩ := HAC.out _ (bthen HBX.out (bthen hb3 hb4)))
                  | (go_at_call 182; (with_reducible refine (HI1.out _).mono ?_); rintro e w5 ⟨rfl, rfl⟩)
                  | (go_at_call 182; (with_reducible refine (HI2.out _).mono ?_); rintro e w6 ⟨rfl, rfl⟩))
                go_ret
                exact ⟨by rw [HA.out]; rfl, (bthen HBR.out (bthen hb3 hb4))⟩
              cases W6
              case false =>
                go_wp2_with (first
                  | (go_at_call 13; (with_reducible refine (HW.out _).mono ?_); rintro e w2 ⟨rfl, rfl⟩)
                  | (go_at_call 181; (with_reducible refine (HOB.out _ HBR.out).mono ?_); rintro e w3 ⟨rfl, hb3⟩; obtain ⟨x0, x1, x2, x3, x4, x5, x6, x7, x8⟩ := HAC.out _ (bthen HBX.out hb3))
                  | (go_at_call 181; (with_reducible refine (HOU.out _ (bthen HBR.out hb3)).mono ?_); rintro e w4 ⟨rfl, hb4⟩; obtain ⟨y0, y1', y2, y3, y4, y5, y6, y7', y8⟩ := HAC.out _ (bthen HBX.out (bthen hb3 hb4)))
                  | (go_at_call 182; (with_reducible refine (HI1.out _).mono ?_); rintro e w5 ⟨rfl, rfl⟩)
                  | (go_at_call 182; (with_reducible refine (HI2.out _).mono ?_); rintro e w6 ⟨rfl, rfl⟩)
                  | (go_at_call 182; (with_reducible refine (HI3.out _).mono ?_); rintro e w7 ⟨rfl, rfl⟩))
                go_ret
                exact ⟨by rw [HA.out]; rfl, (bthen HBR.out (bthen hb3 hb4))⟩
              cases W7
              all_goals
                go_wp2_with (first
                  | (go_at_call 13; (with_reducible refine (HW.out _).mono ?_); rintro e w2 ⟨rfl, rfl⟩)
                  | (go_at_call 181; (with_reducible refine (HOB.out _ HBR.out).mono ?_); rintro e w3 ⟨rfl, hb3⟩; obtain ⟨x0, x1, x2, x3, x4, x5, x6, x7, x8⟩ := HAC.out _ (bthen HBX.out hb3))
                  | (go_at_call 181; (with_reducible refine (HOU.out _ (bthen HBR.out hb3)).mono ?_); rintro e w4 ⟨rfl, hb4⟩; obtain ⟨y0, y1', y2, y3, y4, y5, y6, y7', y8⟩ := HAC.out _ (bthen HBX.out (bthen hb3 hb4)))
                  | (go_at_call 182; (with_reducible refine (HI1.out _).mono ?_); rintro e w5 ⟨rfl, rfl⟩)
                  | (go_at_call 182; (with_reducible refine (HI2.out _).mono ?_); rintro e w6 ⟨rfl, rfl⟩)
                  | (go_at_call 182; (with_reducible refine (HI3.out _).mono ?_); rintro e w7 ⟨rfl, rfl⟩))
                go_ret
                exact ⟨by rw [HA.out]; rfl, (bthen HBR.out (bthen hb3 hb4))⟩
end Go.Proofs.YtmhekhilgllciaaGreat
/- The contracts of the document's own May and Right of layer 9. -/
namespace Go.Proofs.YtmhekhilgllciaaGreat
open Go.RowKit

def May9 (w0 : World) (q : RtAt) : Prop := ∀ (d : Nat) (w : World), d ≤ 1000 → Below w0.heap.size w0 w → Calls Tryz.prog 78 #[.agg (tCells q), .int .i64 (d : Int)] w (BoolB (rightRt d q.n) w)
set_option maxHeartbeats 12800000 in
set_option maxRecDepth 100000 in
theorem may9_step {w0 : World} (q : RtAt) (hqo : q.own w0) (hkc : q.n.kids.length ≤ q.kc ∧ q.kc ≤ maxLen) (hpl : q.n.kids = [] ∨ ∃ b off, q.ka = some ⟨b, off, none⟩ ∧ b < w0.heap.size ∧ ∀ i (h : i < q.n.kids.length), ∃ r : RtAt, r.n = q.n.kids[i] ∧ r.lies w0 b (off + i * 9) ∧ r.ok w0 ∧ May9 w0 r) : May9 w0 q := by
  intro d w hd hw
  have hb := balR (o := .cells (tCells q) 27) (Below.refl w.heap.size w)
  have hB := Blk.new w 27 (tCells q)
  obtain ⟨R, hR⟩ : ∃ R, rightRt d q.n = R := ⟨_, rfl⟩
  rw [hR]
  have hone := fun W (hW : Below w.heap.size w W) => one9_any q W ((hqo.call hw).call hW)
  have HB := Lib.hid hb
  cases d with
  | zero =>
    obtain rfl : R = false := by rw [← hR]; rfl
    clear hone hR hpl hkc hqo hb hd
    obtain ⟨n, ma, mc, ba, bc, ua, uc, ka, kc⟩ := q
    simp only [tCells] at *
    obtain ⟨c0, c1, c2, c3, c4, c5, c6, c7, c8⟩ := hB.cells9
    have f1 : (((0 : Nat) : Int) == 0) = true := rfl
    go_enter Tryz.func78, Tryz.ntmps78
    go_wp2_with fail
    go_ret
    exact ⟨rfl, HB.out⟩
  | succ d =>
  have hRR : R = (aloneC q.n && q.n.kids.all (rightRt d)) := by rw [← hR]; rfl
  obtain ⟨I, hI, hgood, hend⟩ := all_endB (rightRt d) q.n.kids
  obtain ⟨A, hA⟩ : ∃ A, aloneC q.n = A := ⟨_, rfl⟩
  obtain ⟨K, hK⟩ : ∃ K, q.n.kids.all (rightRt d) = K := ⟨_, rfl⟩
  rw [hA, hK] at hRR
  rw [hK] at hend
  simp only [hA] at hone
  have HRR := Lib.hid hRR
  have HONE := Lib.hid hone
  have HGI := Lib.hid hgood
  have HEI := Lib.hid hend
  have HPL := Lib.hid hpl
  have HWW := Lib.hid hw
  have HD := Lib.hid hd
  obtain ⟨hk1, hk2⟩ := hkc
  unfold maxLen at hk2
  have f1 : (((d + 1 : Nat) : Int) == 0) = false := by rw [beq_eq_false_iff_ne]; omega
  clear hone hR hRR hgood hend hpl hw hb hd hA hK hqo
  obtain ⟨n, ma, mc, ba, bc, ua, uc, ka, kc⟩ := q
  simp only [tCells] at *
  go_enter Tryz.func78, Tryz.ntmps78
  go_upto_region 1 with fail
  obtain ⟨g, hg⟩ : ∃ g, w.heap.size = g := ⟨_, rfl⟩
  generalize w.alloc (.cells #[.string n.recv, .slice ma n.ms.length mc, .slice ba n.bys.length bc, .int .i64 n.wait, .int .i64 n.every, .int .i64 n.rep, .slice ua n.mute.length uc, .bool n.on, .slice ka n.kids.length kc] 27) = wx at *
  rw [hg] at hB ⊢
  clear hg
  have HAC := Lib.hid (fun W (hW : Below wx.heap.size wx W) => (hB.call hW).cells9)
  obtain ⟨c0, c1, c2, c3, c4, c5, c6, c7, c8⟩ := hB.cells9
  clear hB
  cases A with
  | false =>
    go_wp2_with (go_at_call 118; refine (HONE.out _ HB.out).mono ?_; rintro e w2 ⟨rfl, hb2⟩)
    go_ret
    exact ⟨by rw [HRR.out]; rfl, bthen HB.out hb2⟩
  | true =>
    go_upto_region 3 with (go_at_call 118; refine (HONE.out _ HB.out).mono ?_; rintro e w2 ⟨rfl, hb2⟩)
    clear c0 c1 c2 c3 c4 c5 c6 c7 c8 f1
    have c8 := (HAC.out _ hb2).2.2.2.2.2.2.2.2
    have hcd : ((d + 1 : Nat) : Int) - 1 = (d : Int) := by omega
    have hwr : IntKind.i64.wrap (((d + 1 : Nat) : Int) - 1) = (d : Int) := by rw [IntWalk.i64_in _ (by have := HD.out; omega)]; omega
    have hwd : IntKind.i64.wrap (d : Int) = (d : Int) := IntWalk.i64_in _ (by have := HD.out; omega)
    generalize ((d + 1 : Nat) : Int) = D1 at *
    go_wp2_with fail
    clear c8
    have HB2 := Lib.hid hb2
    clear hb2
    go_loopg [17, 6] n.kids.length (fun gg iv _ wr => ∃ k : Nat, k + gg = n.kids.length ∧ k ≤ I ∧ iv = .int .i64 (k : Int) ∧ Below wx.heap.size wx wr)
    case atStart => exact ⟨0, by omega, Nat.zero_le _, rfl, HB2.out⟩
    case round =>
      obtain ⟨k, hkg, hkI, rfl, hbr⟩ := hrel
      cases gk with
      | zero =>
        obtain rfl : k = n.kids.length := by omega
        obtain rfl : K = true := by
          rcases HEI.out with ⟨_, e⟩ | ⟨h1, _⟩
          · exact e
          · omega
        have HBR := Lib.hid hbr
        clear hbr
        go_wp2_with fail
        go_ret
        exact ⟨by rw [HRR.out]; rfl, bthen HB.out HBR.out⟩
      | succ gg =>
        have hkl : k < n.kids.length := by omega
        obtain ⟨b1, o1, rfl, r, hrn, hrl, _, hrM⟩ : ∃ b off, ka = some ⟨b, off, none⟩ ∧ ∃ r : RtAt, r.n = n.kids[k] ∧ r.lies w0 b (off + k * 9) ∧ r.ok w0 ∧ May9 w0 r := by
          rcases HPL.out with h | ⟨b, off, h1, _, h3⟩
          · rw [h] at hkl; simp at hkl
          · exact ⟨b, off, h1, h3 k hkl⟩
        have hbw := bthen HWW.out (bthen HB.out hbr)
        obtain ⟨e0, e1, e2, e3, e4, e5, e6, e7, e8⟩ := hrl.call hbw
        have hbn := balR (o := .cells (tCells r) 27) (Below.refl wr.heap.size wr)
        obtain ⟨f0, f1, f2, f3, f4, f5, f6, f7, f8⟩ := (Blk.new wr 27 (tCells r)).cells9
        have hM := hrM d (wr.alloc (.cells (tCells r) 27)) (by have := HD.out; omega) (bthen hbw hbn)
        have hrr : k = I → rightRt d r.n = false ∧ R = false := fun e => by
          rcases HEI.out with ⟨h1, _⟩ | ⟨_, h3, h4⟩
          · omega
          · subst e
            rw [hrn]
            exact ⟨h3, by rw [HRR.out, h4]; rfl⟩
        have hgg : k ≠ I → rightRt d r.n = true := fun e => by rw [hrn]; exact HGI.out k (by omega) hkl
        obtain ⟨X, hX⟩ : ∃ X, rightRt d r.n = X := ⟨_, rfl⟩
        rw [hX] at hM hrr hgg
        have HMM := Lib.hid hM
        have HB1 := Lib.hid (bthen hbr hbn)
        clear hX hM hbn hbw hbr hrn hrl hrM
        obtain ⟨r, ra, rc, rba, rbc, rua, ruc, qa, qc⟩ := r
        simp only [tCells] at *
        by_cases hkI2 : k = I
        · obtain ⟨rfl, rfl⟩ := hrr hkI2
          clear hrr hgg hkI2 hkI
          go_wp2_with (go_at_call 78; refine HMM.out.mono ?_; rintro e w3 ⟨rfl, hb3⟩)
          go_ret
          exact ⟨rfl, bthen HB.out (bthen HB1.out hb3)⟩
        · obtain rfl := hgg hkI2
          clear hrr hgg
          go_wp2_with (go_at_call 78; refine HMM.out.mono ?_; rintro e w3 ⟨rfl, hb3⟩)
          go_roundg gg
          case measure => omega
          case rel => exact ⟨k + 1, by omega, by omega, by go_num, bthen HB1.out hb3⟩
theorem may9_any {w0 : World} {q : RtAt} (h : q.ok w0) : May9 w0 q := by
  induction h with
  | flat q h0 h1 => exact may9_step q h0.1 h0.2 (.inl h1)
  | row q b off R h0 h1 h2 h3 h4 h5 ih => exact may9_step q h0.1 h0.2 (.inr ⟨b, off, h1, h2, fun i hi => ⟨R i, h3 i hi, h4 i hi, h5 i hi, ih i hi⟩⟩)
set_option maxHeartbeats 1600000 in
set_option maxRecDepth 100000 in
theorem right9_any (q : RtAt) (w : World) (h : q.ok w) : Calls Tryz.prog 29 #[.agg (tCells q)] w (BoolB (rteC q.n) w) := by
  have hb := balR (o := .cells (tCells q) 27) (Below.refl w.heap.size w)
  have hB := Blk.new w 27 (tCells q)
  have hM := may9_any h 4 (w.alloc (.cells (tCells q) 27)) (by omega) hb
  rw [show rightRt 4 q.n = rteC q.n from rfl, show ((4 : Nat) : Int) = 4 from rfl] at hM
  generalize rteC q.n = R at *
  have HM := Lib.hid hM
  have HB := Lib.hid hb
  clear hM hb h
  obtain ⟨n, ma, mc, ba, bc, ua, uc, ka, kc⟩ := q
  simp only [tCells] at *
  obtain ⟨c0, c1, c2, c3, c4, c5, c6, c7, c8⟩ := hB.cells9
  go_enter Tryz.func29, Tryz.ntmps29
  go_wp2_with (go_at_call 78; refine HM.out.mono ?_; rintro e w3 ⟨rfl, hb3⟩)
  go_ret
  exact ⟨rfl, bthen HB.out hb3⟩
end Go.Proofs.YtmhekhilgllciaaGreat
/- The contract of the document's own Right of layer 10. -/
namespace Go.Proofs.YtmhekhilgllciaaGreat
open Go.RowKit

/-- is there what a route names? -/
def okRt (re names : List ByteArray) (r : Rt) : Bool := memB r.recv re && r.mute.all (fun s => memB s names)
theorem inB_mem (x : ByteArray) (l : List ByteArray) : inB x l = memB x l := by rw [Bool.eq_iff_iff, inB_iff, memB_iff]
theorem routes_ok (l : List Rt) (re names : List ByteArray) : (amongB (onceL (tellL recvT l)) re && amongB (onceL (tellL muteT l)) names) = l.all (okRt re names) := by
  rw [Bool.eq_iff_iff]
  simp only [Bool.and_eq_true, amongB, List.all_eq_true, inB_iff, mem_once, tellL, List.mem_flatMap, okRt, memB_iff]
  constructor
  · rintro ⟨h1, h2⟩ r hr
    exact ⟨h1 _ ⟨r, hr, by simp [recvT]⟩, fun s hs => h2 s ⟨r, hr, hs⟩⟩
  · intro h
    refine ⟨fun s ⟨r, hr, hs⟩ => ?_, fun s ⟨r, hr, hs⟩ => (h r hr).2 s hs⟩
    simp only [recvT, List.mem_cons, List.not_mem_nil, or_false] at hs
    rw [hs]
    exact (h r hr).1
/-- may a configuration be, in the order in which the document's own answer asks -/
theorem cfg_is (k : CfA) : cfgC k = ((k.ru.all RuA.good && (decide (k.ru.length ≤ 16) && onceS (k.ru.map RuA.name))) && ((k.hr.all HrA.good && (decide (k.hr.length ≤ 8) && onceS (k.hr.map HrA.n))) &&
    (decide (k.re.length ≤ 16) && (onceS k.re && (decide (k.ih.length ≤ 8) && (k.re.all (fun s => bwC s.data.toList) && (k.ih.all InA.good && (rteC k.rt.n && (!decide (0 < k.rt.n.ms.length) && (!k.rt.n.on && (k.rt.n.all.all (okRt k.re (k.hr.map HrA.n)) && decide (k.rt.n.count ≤ 32)))))))))))) := by
  have hL := routes_ok k.rt.n.all k.re (k.hr.map HrA.n)
  have hN : decide (k.rt.n.count ≤ 32) = !decide (32 < k.rt.n.count) := by
    rw [Bool.eq_iff_iff, decide_eq_true_eq, Bool.not_eq_true', decide_eq_false_iff_not]
    omega
  rw [hN, ← hL]
  unfold cfgC routeC
  rw [Bool.eq_iff_iff]
  simp only [Bool.and_eq_true]
  constructor
  · rintro ⟨⟨a1, a2⟩, a3, ⟨a4, a5⟩, a6, ⟨a7, a8⟩, ⟨b1, b2⟩, b3, b4, b5, b6, b7, b8, b9⟩
    exact ⟨⟨a2, a1, a3⟩, ⟨b2, b1, b3⟩, a4, a6, a7, a5, a8, b4, b5, b6, ⟨b8, b9⟩, b7⟩
  · rintro ⟨⟨a2, a1, a3⟩, ⟨b2, b1, b3⟩, a4, a6, a7, a5, a8, b4, b5, b6, ⟨b8, b9⟩, b7⟩
    exact ⟨⟨a1, a2⟩, a3, ⟨a4, a5⟩, a6, ⟨a7, a8⟩, ⟨b1, b2⟩, b3, b4, b5, b6, b7, b8, b9⟩
set_option maxHeartbeats 25600000 in
set_option maxRecDepth 100000 in
theorem rRight10_any (k : CfA) (w : World) (h : k.ok w) (h8 : k.ru.length ≤ 1000000) (h9 : k.hr.length ≤ 1000000) : Calls Tryz.prog 8 #[.agg (kCells k)] w (BoolB (cfgC k) w) := by
  have hb := (Below.refl w.heap.size w).alloc (Nat.le_refl _) (.cells (kCells k) 31)
  have hA := Blk.new w 31 (kCells k)
  have H1 := Lib.hid (fun W (hW : Below w.heap.size w W) => rRules_any k.ua k.uc k.ru W (h.1.keep hW) h8)
  have H2 := Lib.hid (fun W (hW : Below w.heap.size w W) => rHours_any k.ha k.hc k.hr W (h.2.2.2.2.keep hW) h9)
  have H3 := Lib.hid (fun W (hW : Below w.heap.size w W) => rOnce10_any k.ra k.rc k.re W (h.2.2.1.call hW))
  have H4 := Lib.hid (fun W (hW : Below w.heap.size w W) s => rHas10_any k.ra k.rc k.re s W (h.2.2.1.call hW))
  have H5 := Lib.hid (fun W (hW : Below w.heap.size w W) => right9_any k.rt W (h.2.1.call hW))
  have H6 := Lib.hid (fun W (hW : Below w.heap.size w W) (hc : rteC k.rt.n = true) => all_any h.2.1 W hW (rteC_count hc))
  have HSR := Lib.hid h.2.2.1
  have HIR := Lib.hid h.2.2.2.1
  have HHZ := Lib.hid (show ∀ s ∈ k.hr.map HrA.n, s.size ≤ maxLen from fun s hs => by
    obtain ⟨x, hx, rfl⟩ := List.mem_map.1 hs
    exact (h.2.2.2.2.2.2.1 x hx).1)
  have hrl := h.2.2.1.1
  have hrm := h.2.2.1.2.1
  have hil := h.2.2.2.1.1
  have him := h.2.2.2.1.2.1
  unfold maxLen at hrm him
  have hRR := cfg_is k
  obtain ⟨HN, hHN⟩ : ∃ N, k.hr.map HrA.n = N := ⟨_, rfl⟩
  simp only [hHN] at H2 HHZ hRR
  obtain ⟨J1, hJ1, hg1, he1⟩ := all_endB (fun s : ByteArray => bwC s.data.toList) k.re
  obtain ⟨J2, hJ2, hg2, he2⟩ := all_endB InA.good k.ih
  obtain ⟨J3, hJ3, hg3, he3⟩ := all_endB (okRt k.re HN) k.rt.n.all
  obtain ⟨R, hR⟩ : ∃ R, cfgC k = R := ⟨_, rfl⟩
  obtain ⟨GA, hGA⟩ : ∃ B, k.ru.all RuA.good = B := ⟨_, rfl⟩
  obtain ⟨GB, hGB⟩ : ∃ B, k.hr.all HrA.good = B := ⟨_, rfl⟩
  obtain ⟨A, hAA⟩ : ∃ B, (GA && (decide (k.ru.length ≤ 16) && onceS (k.ru.map RuA.name))) = B := ⟨_, rfl⟩
  obtain ⟨B, hBB⟩ : ∃ B, (GB && (decide (k.hr.length ≤ 8) && onceS HN)) = B := ⟨_, rfl⟩
  have HGB := Lib.hid (show B = true → GB = true from fun e => by rw [← hBB, Bool.and_eq_true] at e; exact e.1)
  obtain ⟨Z1, hZ1⟩ : ∃ B, decide (k.re.length ≤ 16) = B := ⟨_, rfl⟩
  obtain ⟨Z2, hZ2⟩ : ∃ B, decide (k.ih.length ≤ 8) = B := ⟨_, rfl⟩
  obtain ⟨Z3, hZ3⟩ : ∃ B, decide (0 < k.rt.n.ms.length) = B := ⟨_, rfl⟩
  obtain ⟨Z4, hZ4⟩ : ∃ B, decide (k.rt.n.count ≤ 32) = B := ⟨_, rfl⟩
  obtain ⟨O, hO⟩ : ∃ B, k.rt.n.on = B := ⟨_, rfl⟩
  obtain ⟨C1, hC1⟩ : ∃ B, onceS k.re = B := ⟨_, rfl⟩
  obtain ⟨C2, hC2⟩ : ∃ B, rteC k.rt.n = B := ⟨_, rfl⟩
  obtain ⟨G1, hG1⟩ : ∃ B, (k.re.all fun s => bwC s.data.toList) = B := ⟨_, rfl⟩
  obtain ⟨G2, hG2⟩ : ∃ B, k.ih.all InA.good = B := ⟨_, rfl⟩
  obtain ⟨G3, hG3⟩ : ∃ B, k.rt.n.all.all (okRt k.re HN) = B := ⟨_, rfl⟩
  have HL1 := Lib.hid (show (Z1 = true → decide (16 < k.re.length) = false ∧ decide ((16 : Int) < (k.re.length : Int)) = false) ∧ (Z1 = false → decide (16 < k.re.length) = true ∧ decide ((16 : Int) < (k.re.length : Int)) = true) from by
    rw [← hZ1]
    refine ⟨fun e => ?_, fun e => ?_⟩
    · rw [decide_eq_true_eq] at e; exact ⟨decide_eq_false (by omega), decide_eq_false (by omega)⟩
    · rw [decide_eq_false_iff_not] at e; exact ⟨decide_eq_true (by omega), decide_eq_true (by omega)⟩)
  have HL2 := Lib.hid (show (Z2 = true → decide (8 < k.ih.length) = false ∧ decide ((8 : Int) < (k.ih.length : Int)) = false) ∧ (Z2 = false → decide (8 < k.ih.length) = true ∧ decide ((8 : Int) < (k.ih.length : Int)) = true) from by
    rw [← hZ2]
    refine ⟨fun e => ?_, fun e => ?_⟩
    · rw [decide_eq_true_eq] at e; exact ⟨decide_eq_false (by omega), decide_eq_false (by omega)⟩
    · rw [decide_eq_false_iff_not] at e; exact ⟨decide_eq_true (by omega), decide_eq_true (by omega)⟩)
  have HL3 := Lib.hid (show decide ((0 : Int) < (k.rt.n.ms.length : Int)) = Z3 from by rw [← hZ3, Bool.eq_iff_iff, decide_eq_true_iff, decide_eq_true_iff]; omega)
  have HL3' := Lib.hid hZ3
  have HL4 := Lib.hid (show ∀ m, m = k.rt.n.count → decide (m ≤ 32) = Z4 ∧ decide ((m : Int) ≤ 32) = Z4 from fun m hm => by
    rw [hm, hZ4]
    refine ⟨rfl, ?_⟩
    rw [← hZ4, Bool.eq_iff_iff, decide_eq_true_iff, decide_eq_true_iff]; omega)
  rw [hR, hGA, hGB, hAA, hBB, hZ1, hZ2, hZ3, hZ4, hO, hC1, hC2, hG1, hG2, hG3] at hRR
  simp only [hGA, hAA] at H1
  simp only [hGB, hBB] at H2
  simp only [hC1] at H3
  simp only [hC2] at H5 H6
  rw [hG1] at he1
  rw [hG2] at he2
  rw [hG3] at he3
  rw [hR]
  have HRR := Lib.hid hRR
  have HON := Lib.hid hO
  have HG1 := Lib.hid hg1
  have HE1 := Lib.hid he1
  have HG2 := Lib.hid hg2
  have HE2 := Lib.hid he2
  have HG3 := Lib.hid hg3
  have HE3 := Lib.hid he3
  have HB := Lib.hid hb
  clear hb h h8 h9 hRR hg1 he1 hg2 he2 hg3 he3 hR hGA hGB hAA hBB hZ1 hZ2 hZ3 hZ4 hO hC1 hC2 hG1 hG2 hG3
  obtain ⟨ru, ua, uc, ⟨n, ma, mc, ba, bc, mu, mv, ka, kc⟩, re, ra, rc, ih, ia, ic, hr, ha, hc⟩ := k
  simp only [kCells, tCells] at *
  go_enter Tryz.func8, Tryz.ntmps8
  go_upto_region 1 with fail
  obtain ⟨g, hg⟩ : ∃ g, w.heap.size = g := ⟨_, rfl⟩
  generalize w.alloc (.cells #[.slice ua ru.length uc, .string n.recv, .slice ma n.ms.length mc, .slice ba n.bys.length bc, .int .i64 n.wait, .int .i64 n.every, .int .i64 n.rep, .slice mu n.mute.length mv, .bool n.on, .slice ka n.kids.length kc, .slice ra re.length rc, .slice ia ih.length ic, .slice ha hr.length hc] 31) = wx at *
  rw [hg] at hA ⊢
  clear hg
  have HAC := Lib.hid (fun W (hW : Below wx.heap.size wx W) => (hA.call hW).cells13)
  obtain ⟨c0, c1, c2, c3, c4, c5, c6, c7, c8, c9, c10, c11, c12⟩ := hA.cells13
  clear hA
  go_upto_region 2 with (go_at_call 25; (with_reducible refine (H1.out _ HB.out).mono ?_); rintro e w2 ⟨v2, rfl, hb2, ho2⟩; have q2 := hb2; obtain ⟨p0, p1, p2, p3, p4, p5, p6, p7, p8, p9, p10, p11, p12⟩ := HAC.out _ q2)
  clear c0 c1 c2 c3 c4 c5 c6 c7 c8 c9 c10 c11 c12
  go_upto_region 3 with (go_at_call 26; (with_reducible refine (H2.out _ (bthen HB.out q2)).mono ?_); rintro e w3 ⟨v3, rfl, hb3, ho3⟩; have q3 := bthen q2 hb3; clear p0 p1 p2 p3 p4 p5 p6 p7 p8 p9 p10 p11 p12; obtain ⟨p0, p1, p2, p3, p4, p5, p6, p7, p8, p9, p10, p11, p12⟩ := HAC.out _ q3)
  clear hb2 hb3 q2 ho2
  cases A
  case false =>
    go_wp2_with fail
    go_ret
    exact ⟨by rw [HRR.out]; rfl, bthen HB.out q3⟩
  cases B
  case false =>
    go_wp2_with fail
    go_ret
    exact ⟨by rw [HRR.out]; rfl, bthen HB.out q3⟩
  obtain rfl := HGB.out rfl
  obtain ⟨va, vc, rfl, hs3⟩ := (ho3 rfl).strs HHZ.out
  have HS3 := Lib.hid hs3
  clear ho3 hs3
  cases Z1
  case false =>
    obtain ⟨d1, d2⟩ := HL1.out.2 rfl
    go_wp2_with fail
    go_ret
    exact ⟨by rw [HRR.out]; rfl, bthen HB.out q3⟩
  obtain ⟨d1, d2⟩ := HL1.out.1 rfl
  cases C1
  case false =>
    go_wp2_with (go_at_call 27; (with_reducible refine (H3.out _ (bthen HB.out q3)).mono ?_); rintro e w4 ⟨rfl, rfl⟩)
    go_ret
    exact ⟨by rw [HRR.out]; rfl, bthen HB.out q3⟩
  cases Z2
  case false =>
    obtain ⟨d3, d4⟩ := HL2.out.2 rfl
    go_wp2_with (go_at_call 27; (with_reducible refine (H3.out _ (bthen HB.out q3)).mono ?_); rintro e w4 ⟨rfl, rfl⟩)
    go_ret
    exact ⟨by rw [HRR.out]; rfl, bthen HB.out q3⟩
  obtain ⟨d3, d4⟩ := HL2.out.1 rfl
  go_upto_region 5 with (go_at_call 27; (with_reducible refine (H3.out _ (bthen HB.out q3)).mono ?_); rintro e w4 ⟨rfl, rfl⟩)
  clear d1 d2 d3 d4 HL1 HL2 H1 H2 H3
  have HB3 := Lib.hid (bthen HB.out q3)
  have HAC3 := Lib.hid (fun W (hW : Below w3.heap.size w3 W) => HAC.out _ (bthen q3 hW))
  clear q3
  have HNS := Lib.hid (fun W (hW : Below w3.heap.size w3 W) s => rHas10_any va vc HN s W (HS3.out.call hW))
  have hnl := HS3.out.1
  have hnm := HS3.out.2.1
  unfold maxLen at hnm
  clear HS3
  obtain ⟨c0, c1, c2, c3, c4, c5, c6, c7, c8, c9, c10, c11, c12⟩ := HAC3.out w3 (Below.refl _ _)
  clear p0 p1 p2 p3 p4 p5 p6 p7 p8 p9 p10 p11 p12
  go_wp2_with fail
  clear c0 c1 c2 c3 c4 c5 c6 c7 c8 c9 c10 c11 c12
  go_loopg [55, 8] re.length (fun gg iv _ wr => ∃ k : Nat, k + gg = re.length ∧ k ≤ J1 ∧ iv = .int .i64 (k : Int) ∧ w3 = wr)
  case atStart => exact ⟨0, by omega, Nat.zero_le _, rfl, rfl⟩
  case round =>
    obtain ⟨k, hkg, hkJ, rfl, rfl⟩ := hrel
    cases gk with
    | succ gg =>
      have hkl : k < re.length := by omega
      obtain ⟨b, off, rfl, hbl, hcell⟩ : ∃ b off, ra = some ⟨b, off, none⟩ ∧ b < w.heap.size ∧ ∀ i (h : i < re.length), w.cell? ⟨b, off + i, none⟩ = some (.string re[i]) := by
        rcases HSR.out.2.2.2 with h | h
        · rw [h] at hkl; simp at hkl
        · exact h
      have hck := cellL HB3.out (hcell k hkl)
      have hW := rbWord_any re[k] w3 (HSR.out.2.2.1 _ (List.getElem_mem hkl))
      have hst : k < J1 → bwC re[k].data.toList = true := fun h => HG1.out k h hkl
      have hstop : k = J1 → bwC re[k].data.toList = false ∧ G1 = false := fun e => by
        rcases HE1.out with ⟨h1, _⟩ | ⟨_, h3, h4⟩
        · omega
        · subst e; exact ⟨h3, h4⟩
      obtain ⟨X, hX⟩ : ∃ X, bwC re[k].data.toList = X := ⟨_, rfl⟩
      rw [hX] at hW hst hstop
      have HWW := Lib.hid hW
      generalize re[k] = s at *
      clear hX hW hcell
      by_cases hj : k = J1
      · obtain ⟨rfl, rfl⟩ := hstop hj
        clear hst hstop hj hkJ
        go_wp2_with (go_at_call 13; refine HWW.out.mono ?_; rintro e w4 ⟨rfl, rfl⟩)
        go_ret
        exact ⟨by rw [HRR.out]; rfl, HB3.out⟩
      · obtain rfl := hst (by omega)
        clear hst hstop
        go_wp2_with (go_at_call 13; refine HWW.out.mono ?_; rintro e w4 ⟨rfl, rfl⟩)
        go_roundg gg
        case measure => omega
        case rel => exact ⟨k + 1, by omega, by omega, by go_num, rfl⟩
    | zero =>
      obtain rfl : k = re.length := by omega
      obtain rfl : G1 = true := by
        rcases HE1.out with ⟨_, e⟩ | ⟨hj, _⟩
        · exact e
        · omega
      clear hkJ HE1 HG1
      obtain ⟨c0, c1, c2, c3, c4, c5, c6, c7, c8, c9, c10, c11, c12⟩ := HAC3.out w3 (Below.refl _ _)
      go_wp2_with fail
      clear c0 c1 c2 c3 c4 c5 c6 c7 c8 c9 c10 c11 c12
      go_loopg [66, 10] ih.length (fun gg iv _ wr => ∃ k : Nat, k + gg = ih.length ∧ k ≤ J2 ∧ iv = .int .i64 (k : Int) ∧ Below w3.heap.size w3 wr)
      case atStart => exact ⟨0, by omega, Nat.zero_le _, rfl, Below.refl _ _⟩
      case round =>
        obtain ⟨k, hkg, hkJ, rfl, hbr⟩ := hrel
        cases gk with
        | succ gg =>
          have hkl : k < ih.length := by omega
          obtain ⟨b, off, rfl, _, hc⟩ := HasRow.place HIR.out k hkl
          have hbw := bthen HB3.out hbr
          have e0 := cellL hbw (hc 0 _ rfl)
          have e1 := cellL hbw (hc 1 _ rfl)
          have e2 := cellL hbw (hc 2 _ rfl)
          rw [Nat.add_zero] at e0
          clear hc
          have hok := HIR.out.2.2.1 ih[k] (List.getElem_mem _)
          have hst : k < J2 → InA.good ih[k] = true := fun h => HG2.out k h hkl
          have hstop : k = J2 → InA.good ih[k] = false ∧ G2 = false := fun e => by
            rcases HE2.out with ⟨h1, _⟩ | ⟨_, h3, h4⟩
            · omega
            · subst e; exact ⟨h3, h4⟩
          obtain ⟨x, hx⟩ : ∃ x, ih[k] = x := ⟨_, rfl⟩
          rw [hx] at hok hst hstop
          simp only [hx] at e0 e1 e2
          clear hx
          have hbn := (Below.refl wr.heap.size wr).alloc (Nat.le_refl _) (.cells #[.slice x.sa x.s.length x.sc, .slice x.ta x.t.length x.tc, .slice x.ea x.e.length x.ec] 51)
          have hN := Blk.new wr 51 #[.slice x.sa x.s.length x.sc, .slice x.ta x.t.length x.tc, .slice x.ea x.e.length x.ec]
          obtain ⟨f0, f1, f2⟩ := hN.cells3
          have hcall := rInhibit_any x _ (InA.ok.call hok (bthen hbw hbn))
          have HBN := Lib.hid (bthen hbr hbn)
          obtain ⟨X, hX⟩ : ∃ X, InA.good x = X := ⟨_, rfl⟩
          rw [hX] at hcall hst hstop
          have HCA := Lib.hid hcall
          clear hN hbn hbr hcall hX hok hbw
          go_upto_region 14 with fail
          generalize wr.alloc (.cells #[.slice x.sa x.s.length x.sc, .slice x.ta x.t.length x.tc, .slice x.ea x.e.length x.ec] 51) = wn at *
          clear e0 e1 e2
          by_cases hj : k = J2
          · obtain ⟨rfl, rfl⟩ := hstop hj
            clear hst hstop hj hkJ
            go_wp2_with (go_at_call 28; refine HCA.out.mono ?_; rintro e w4 ⟨rfl, hb4⟩)
            go_ret
            exact ⟨by rw [HRR.out]; rfl, bthen HB3.out (bthen HBN.out hb4)⟩
          · obtain rfl := hst (by omega)
            clear hst hstop
            go_wp2_with (go_at_call 28; refine HCA.out.mono ?_; rintro e w4 ⟨rfl, hb4⟩)
            go_roundg gg
            case measure => omega
            case rel => exact ⟨k + 1, by omega, by omega, by go_num, bthen HBN.out hb4⟩
        | zero =>
          obtain rfl : k = ih.length := by omega
          obtain rfl : G2 = true := by
            rcases HE2.out with ⟨_, e⟩ | ⟨hj, _⟩
            · exact e
            · omega
          clear hkJ HE2 HG2
          have HBR := Lib.hid hbr
          obtain ⟨c0, c1, c2, c3, c4, c5, c6, c7, c8, c9, c10, c11, c12⟩ := HAC3.out _ hbr
          clear hbr
          have HBW := Lib.hid (bthen HB3.out HBR.out)
          cases C2
          case false =>
            go_wp2_with (go_at_call 29; (with_reducible refine (H5.out _ HBW.out).mono ?_); rintro e w5 ⟨rfl, hb5⟩)
            go_ret
            exact ⟨by rw [HRR.out]; rfl, bthen HBW.out hb5⟩
          have z3 := HL3'.out
          have z3' := HL3.out
          cases Z3
          case true =>
            go_wp2_with (go_at_call 29; (with_reducible refine (H5.out _ HBW.out).mono ?_); rintro e w5 ⟨rfl, hb5⟩; obtain ⟨d0, d1, d2, d3, d4, d5, d6, d7, d8, d9, d10, d11, d12⟩ := HAC3.out _ (bthen HBR.out hb5))
            go_ret
            exact ⟨by rw [HRR.out]; rfl, bthen HBW.out hb5⟩
          have ho := HON.out
          rw [ho] at H5 H6 c8 HAC3
          clear ho HON
          cases O
          case true =>
            go_wp2_with (go_at_call 29; (with_reducible refine (H5.out _ HBW.out).mono ?_); rintro e w5 ⟨rfl, hb5⟩; obtain ⟨d0, d1, d2, d3, d4, d5, d6, d7, d8, d9, d10, d11, d12⟩ := HAC3.out _ (bthen HBR.out hb5))
            go_ret
            exact ⟨by rw [HRR.out]; rfl, bthen HBW.out hb5⟩
          go_upto_region 19 with (go_at_call 29; (with_reducible refine (H5.out _ HBW.out).mono ?_); rintro e w5 ⟨rfl, hb5⟩; obtain ⟨d0, d1, d2, d3, d4, d5, d6, d7, d8, d9, d10, d11, d12⟩ := HAC3.out _ (bthen HBR.out hb5))
          clear c0 c1 c2 c3 c4 c5 c6 c7 c8 c9 c10 c11 c12 z3 z3'
          have HBR5 := Lib.hid (bthen HBR.out hb5)
          have HBW5 := Lib.hid (bthen HBW.out hb5)
          clear hb5
          go_upto_region 20 with (go_at_call 30; (with_reducible refine (H6.out _ HBW5.out trivial).mono ?_); rintro e w6 ⟨gl, cl, rs, rfl, hgl, hrs, hrok, hrow, hrl2, hcm, hb6⟩)
          clear d0 d1 d2 d3 d4 d5 d6 d7 d8 d9 d10 d11 d12
          unfold maxLen at hcm
          have hlen : rs.length = n.count := by rw [← Rt.all_len, ← hrs, List.length_map]
          obtain ⟨z4, z4'⟩ := HL4.out _ hlen
          have HRS := Lib.hid hrs
          have HRK := Lib.hid hrok
          have HRW := Lib.hid hrow
          have HBW6 := Lib.hid (bthen HBW5.out hb6)
          have HBR6 := Lib.hid (bthen HBR5.out hb6)
          have Z4H := Lib.hid (And.intro z4 z4')
          clear hrs hrok hrow hb6 hlen z4 z4' hgl
          go_wp2_with fail
          go_loopg [95, 13, 15] rs.length (fun gg iv _ _ wr => ∃ k : Nat, k + gg = rs.length ∧ k ≤ J3 ∧ iv = .int .i64 (k : Int) ∧ Below w6.heap.size w6 wr)
          case atStart => exact ⟨0, by omega, Nat.zero_le _, rfl, Below.refl _ _⟩
          case round =>
            obtain ⟨k, hkg, hkJ, rfl, hbr⟩ := hrel
            have hrl3 : n.all.length = rs.length := by rw [← HRS.out, List.length_map]
            cases gk with
            | zero =>
              obtain rfl : k = rs.length := by omega
              obtain rfl : G3 = true := by
                rcases HE3.out with ⟨_, e⟩ | ⟨hj, _⟩
                · exact e
                · omega
              have HBX := Lib.hid (bthen HBW6.out hbr)
              clear hkJ HE3 HG3 hrl3 hbr
              obtain ⟨z4, z4'⟩ := Z4H.out
              go_wp2_with fail
              go_ret
              exact ⟨by rw [HRR.out]; rfl, HBX.out⟩
            | succ gg =>
              have hkl : k < rs.length := by omega
              go_upto_block 5 with fail
              go_cut [13, 15] (fun _ _ wy => k ≠ J3 ∧ Below w6.heap.size w6 wy)
              case rest =>
                obtain ⟨hne, hbz⟩ := hcut
                go_wp2_with fail
                go_roundg gg
                case measure => omega
                case rel => exact ⟨k + 1, by omega, by omega, by go_num, hbz⟩
              case first =>
                obtain ⟨e0, e1, e2, e3, e4, e5, e6, e7, e8⟩ := (HRW.out.call hbr).lies k hkl
                have hqn : rs[k].n = n.all[k]'(by omega) := by
                  have := HRS.out
                  simp [← this]
                have hok := HRK.out rs[k] (List.getElem_mem _)
                have hst : k < J3 → okRt re HN rs[k].n = true := fun h => by rw [hqn]; exact HG3.out k h (by omega)
                have hstop : k = J3 → okRt re HN rs[k].n = false ∧ G3 = false := fun e => by
                  rw [hqn]
                  rcases HE3.out with ⟨h1, _⟩ | ⟨_, h3, h4⟩
                  · omega
                  · subst e; exact ⟨h3, h4⟩
                clear hqn
                obtain ⟨q, hq⟩ : ∃ q, rs[k] = q := ⟨_, rfl⟩
                rw [hq] at hok hst hstop
                simp only [hq] at e0 e1 e2 e3 e4 e5 e6 e7 e8
                clear hq
                obtain ⟨UA, hUA⟩ : ∃ u, q.ua = u := ⟨_, rfl⟩
                have hmu0 := hok.own.2.2.1
                rw [hUA] at e6 hmu0
                clear hUA
                have hbn := (Below.refl wr.heap.size wr).alloc (Nat.le_refl _) (.cells #[.string q.n.recv, .slice q.ma q.n.ms.length q.mc, .slice q.ba q.n.bys.length q.bc, .int .i64 q.n.wait, .int .i64 q.n.every, .int .i64 q.n.rep, .slice UA q.n.mute.length q.uc, .bool q.n.on, .slice q.ka q.n.kids.length q.kc] 27)
                have hN := Blk.new wr 27 #[.string q.n.recv, .slice q.ma q.n.ms.length q.mc, .slice q.ba q.n.bys.length q.bc, .int .i64 q.n.wait, .int .i64 q.n.every, .int .i64 q.n.rep, .slice UA q.n.mute.length q.uc, .bool q.n.on, .slice q.ka q.n.kids.length q.kc]
                have HBN := Lib.hid (bthen hbr hbn)
                have HND := Lib.hid (fun W (hW : Below (wr.alloc (.cells #[.string q.n.recv, .slice q.ma q.n.ms.length q.mc, .slice q.ba q.n.bys.length q.bc, .int .i64 q.n.wait, .int .i64 q.n.every, .int .i64 q.n.rep, .slice UA q.n.mute.length q.uc, .bool q.n.on, .slice q.ka q.n.kids.length q.kc] 27)).heap.size (wr.alloc (.cells #[.string q.n.recv, .slice q.ma q.n.ms.length q.mc, .slice q.ba q.n.bys.length q.bc, .int .i64 q.n.wait, .int .i64 q.n.every, .int .i64 q.n.rep, .slice UA q.n.mute.length q.uc, .bool q.n.on, .slice q.ka q.n.kids.length q.kc] 27)) W) => (hN.call hW).cells9)
                have HBX := Lib.hid (bthen HBW6.out (bthen hbr hbn))
                have HBY := Lib.hid (bthen HBR6.out (bthen hbr hbn))
                have HMU := Lib.hid hmu0
                clear hmu0
                have hml := HMU.out.1
                have hmm := HMU.out.2.1
                unfold maxLen at hmm
                obtain ⟨X, hX⟩ : ∃ X, memB q.n.recv re = X := ⟨_, rfl⟩
                obtain ⟨J4, hJ4, hg4, he4⟩ := all_endB (fun s : ByteArray => memB s HN) q.n.mute
                obtain ⟨Y, hY⟩ : ∃ Y, (q.n.mute.all fun s => memB s HN) = Y := ⟨_, rfl⟩
                have hXY : okRt re HN q.n = (X && Y) := by rw [← hX, ← hY]; rfl
                rw [hXY] at hst hstop
                rw [hY] at he4
                have HG4 := Lib.hid hg4
                have HE4 := Lib.hid he4
                clear hN hbn hok hXY hY hg4 he4
                go_upto_region 23 with fail
                generalize wr.alloc (.cells #[.string q.n.recv, .slice q.ma q.n.ms.length q.mc, .slice q.ba q.n.bys.length q.bc, .int .i64 q.n.wait, .int .i64 q.n.every, .int .i64 q.n.rep, .slice UA q.n.mute.length q.uc, .bool q.n.on, .slice q.ka q.n.kids.length q.kc] 27) = wn at *
                clear e0 e1 e2 e3 e4 e5 e6 e7 e8
                have hcall := H4.out wn HBX.out q.n.recv
                rw [hX] at hcall
                have HCA := Lib.hid hcall
                clear hcall hX
                obtain ⟨f0, f1, f2, f3, f4, f5, f6, f7, f8⟩ := HND.out wn (Below.refl _ _)
                obtain ⟨c0, c1, c2, c3, c4, c5, c6, c7, c8, c9, c10, c11, c12⟩ := HAC3.out wn HBY.out
                cases X
                case false =>
                  have hkj : k = J3 := by
                    by_cases hj : k = J3
                    · exact hj
                    · have := hst (by omega); cases this
                  obtain ⟨_, rfl⟩ := hstop hkj
                  clear hst hstop hkj hkJ
                  go_wp2_with (go_at_call 31; refine HCA.out.mono ?_; rintro e w7 ⟨rfl, rfl⟩)
                  go_ret
                  exact ⟨by rw [HRR.out]; rfl, HBX.out⟩
                rw [Bool.true_and] at hst hstop
                go_upto_region 25 with (go_at_call 31; refine HCA.out.mono ?_; rintro e w7 ⟨rfl, rfl⟩)
                clear c0 c1 c2 c3 c4 c5 c6 c7 c8 c9 c10 c11 c12
                go_wp2_with fail
                clear f0 f1 f2 f3 f4 f5 f6 f7 f8
                go_loopg [108, 15] q.n.mute.length (fun gg2 jv _ wy => ∃ j : Nat, j + gg2 = q.n.mute.length ∧ j ≤ J4 ∧ jv = .int .i64 (j : Int) ∧ wn = wy)
                case atStart => exact ⟨0, by omega, Nat.zero_le _, rfl, rfl⟩
                case round =>
                  obtain ⟨j, hjg, hjJ, rfl, rfl⟩ := hrel
                  cases gk with
                  | zero =>
                    obtain rfl : j = q.n.mute.length := by omega
                    obtain rfl : Y = true := by
                      rcases HE4.out with ⟨_, e⟩ | ⟨hj, _⟩
                      · exact e
                      · omega
                    have hkj : k ≠ J3 := fun e => by have := (hstop e).1; cases this
                    clear hst hstop hjJ
                    go_wp2_with fail
                    go_meet
                    exact ⟨hkj, HBN.out⟩
                  | succ gi =>
                    have hjl : j < q.n.mute.length := by omega
                    obtain ⟨b2, off2, rfl, _, hcell⟩ : ∃ b off, UA = some ⟨b, off, none⟩ ∧ b < w.heap.size ∧ ∀ i (h : i < q.n.mute.length), w.cell? ⟨b, off + i, none⟩ = some (.string q.n.mute[i]) := by
                      rcases HMU.out.2.2.2 with h | h
                      · rw [h] at hjl; simp at hjl
                      · exact h
                    have hcj := cellL HBX.out (hcell j hjl)
                    have hnc := HNS.out wn HBY.out q.n.mute[j]
                    have hst4 : j < J4 → memB q.n.mute[j] HN = true := fun h => HG4.out j h hjl
                    have hstop4 : j = J4 → memB q.n.mute[j] HN = false ∧ Y = false := fun e => by
                      rcases HE4.out with ⟨h1, _⟩ | ⟨_, h3, h4⟩
                      · omega
                      · subst e; exact ⟨h3, h4⟩
                    obtain ⟨V, hV⟩ : ∃ V, memB q.n.mute[j] HN = V := ⟨_, rfl⟩
                    rw [hV] at hnc hst4 hstop4
                    generalize q.n.mute[j] = s at *
                    have HNC := Lib.hid hnc
                    clear hnc hV hcell
                    by_cases hj4 : j = J4
                    · obtain ⟨rfl, rfl⟩ := hstop4 hj4
                      have hkj : k = J3 := by
                        by_cases hj : k = J3
                        · exact hj
                        · have := hst (by omega); cases this
                      obtain ⟨_, rfl⟩ := hstop hkj
                      clear hst hstop hkj hkJ hst4 hstop4 hj4 hjJ
                      go_wp2_with (go_at_call 31; refine HNC.out.mono ?_; rintro e w8 ⟨rfl, rfl⟩)
                      go_ret
                      exact ⟨by rw [HRR.out]; rfl, HBX.out⟩
                    · obtain rfl := hst4 (by omega)
                      clear hst4 hstop4
                      go_wp2_with (go_at_call 31; refine HNC.out.mono ?_; rintro e w8 ⟨rfl, rfl⟩)
                      go_roundg gi
                      case measure => omega
                      case rel => exact ⟨j + 1, by omega, by omega, by go_num, rfl⟩
end Go.Proofs.YtmhekhilgllciaaGreat
