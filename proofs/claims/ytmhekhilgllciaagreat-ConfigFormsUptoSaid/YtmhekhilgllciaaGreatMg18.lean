/- The contract of the document's own Like of layer 10. -/
import Derived.Test.YtmhekhilgllciaaGreatMg11
import Derived.Test.YtmhekhilgllciaaGreatMg15
import Derived.Test.YtmhekhilgllciaaGreatMg17
import Derived.Test.YtmhekhilgllciaaGreatMg4
import Derived.Test.YtmhekhilgllciaaGreatMg14
import Derived.Test.YtmhekhilgllciaaGreatMg8
import Derived.Test.YtmhekhilgllciaaGreatZDocE
import Derived.Test.YtmhekhilgllciaaGreatMg2
import Derived.Outline
import Derived.Test.YtmhekhilgllciaaGreatMg6
import Derived.Test.YtmhekhilgllciaaGreatMg13
namespace Go.Proofs.YtmhekhilgllciaaGreat
open Go.RowKit

set_option maxHeartbeats 25600000 in
set_option maxRecDepth 100000 in
theorem rLike10_any (a b : CfA) (w : World) (h : a.ok w) (h' : b.ok w) (ga : ∀ z ∈ a.ih, InA.good z = true) (gb : ∀ z ∈ b.ih, InA.good z = true) : Calls Tryz.prog 10 #[.agg (kCells a), .agg (kCells b)] w (BoolB (sameK a b) w) := by
  have hb1 := (Below.refl w.heap.size w).alloc (Nat.le_refl _) (.cells (kCells a) 31)
  have hb2 := balR (o := .cells (kCells b) 31) hb1
  have hA := (Blk.new w 31 (kCells a)).alloc (.cells (kCells b) 31)
  have hZ := nbR w (.cells (kCells a) 31) (kCells b) 31
  obtain ⟨R, hR⟩ : ∃ R, sameK a b = R := ⟨_, rfl⟩
  have N1 := Lib.hid (show a.ru.map RuA.r ≠ b.ru.map RuA.r → R = false from fun e => by rw [← hR]; unfold sameK; rw [eqB_no e]; rfl)
  have N2 := Lib.hid (show a.re ≠ b.re → R = false from fun e => by rw [← hR]; unfold sameK; rw [decide_eq_false e]; simp)
  have N3 := Lib.hid (show a.hr ≠ b.hr → R = false from fun e => by rw [← hR]; unfold sameK; rw [eqB_no e]; simp)
  have N4 := Lib.hid (show a.ih.map inhT ≠ b.ih.map inhT → R = false from fun e => by rw [← hR]; unfold sameK; rw [eqB_no (fun e2 => e ((inhs_val _ _ ga gb).2 e2))]; simp)
  have Y1 := Lib.hid (show a.ru.map RuA.r = b.ru.map RuA.r → a.re = b.re → a.hr = b.hr → a.ih.map inhT = b.ih.map inhT → R = eqB (a.rt.n = b.rt.n) from fun e1 e2 e3 e4 => by
    rw [← hR]; unfold sameK
    rw [eqB_yes e1, eqB_yes e3, decide_eq_true e2, eqB_yes ((inhs_val _ _ ga gb).1 e4)]; simp)
  rw [hR]
  have HSM := Lib.hid (fun W (hW : Below w.heap.size w W) => same_any a.ra b.ra a.rc b.rc a.re b.re W (h.2.2.1.call hW) (h'.2.2.1.call hW))
  have HL9 := Lib.hid (fun W (hW : Below w.heap.size w W) => like9_any h.2.1 b.rt W (h'.2.1.call hW) hW)
  have HRA := Lib.hid h.1
  have HRB := Lib.hid h'.1
  have HHA := Lib.hid h.2.2.2.2
  have HHB := Lib.hid h'.2.2.2.2
  have HIA := Lib.hid h.2.2.2.1
  have HIB := Lib.hid h'.2.2.2.1
  have GA := Lib.hid ga
  have GB := Lib.hid gb
  have HB := Lib.hid hb2
  obtain ⟨S0, hS0⟩ : ∃ B, decide (a.re = b.re) = B := ⟨_, rfl⟩
  have HS0 := Lib.hid hS0
  rw [hS0] at HSM
  obtain ⟨L0, hL0⟩ : ∃ B, eqB (a.rt.n = b.rt.n) = B := ⟨_, rfl⟩
  rw [hL0] at HL9 Y1
  clear hb1 hb2 h h' ga gb hR hS0 hL0
  obtain ⟨ru, ua, uc, ⟨n, ma, mc, ba, bc, mu, mv, ka, kc⟩, re, ra, rc, ih, ia, ic, hr, ha, hc⟩ := a
  obtain ⟨ru2, ua2, uc2, ⟨n2, ma2, mc2, ba2, bc2, mu2, mv2, ka2, kc2⟩, re2, ra2, rc2, ih2, ia2, ic2, hr2, ha2, hc2⟩ := b
  simp only [kCells, tCells] at *
  go_enter Tryz.func10, Tryz.ntmps10
  go_upto_region 1 with fail
  obtain ⟨g, hg⟩ : ∃ g, w.heap.size = g := ⟨_, rfl⟩
  generalize (w.alloc (.cells #[.slice ua ru.length uc, .string n.recv, .slice ma n.ms.length mc, .slice ba n.bys.length bc, .int .i64 n.wait, .int .i64 n.every, .int .i64 n.rep, .slice mu n.mute.length mv, .bool n.on, .slice ka n.kids.length kc, .slice ra re.length rc, .slice ia ih.length ic, .slice ha hr.length hc] 31)).alloc (.cells #[.slice ua2 ru2.length uc2, .string n2.recv, .slice ma2 n2.ms.length mc2, .slice ba2 n2.bys.length bc2, .int .i64 n2.wait, .int .i64 n2.every, .int .i64 n2.rep, .slice mu2 n2.mute.length mv2, .bool n2.on, .slice ka2 n2.kids.length kc2, .slice ra2 re2.length rc2, .slice ia2 ih2.length ic2, .slice ha2 hr2.length hc2] 31) = wx at *
  rw [hg] at hA hZ ⊢
  clear hg
  have HAC := Lib.hid (fun W (hW : Below wx.heap.size wx W) => (hA.call hW).cells13)
  have HZC := Lib.hid (fun W (hW : Below wx.heap.size wx W) => (hZ.call hW).cells13)
  obtain ⟨c0, c1, c2, c3, c4, c5, c6, c7, c8, c9, c10, c11, c12⟩ := HAC.out wx (Below.refl _ _)
  obtain ⟨d0, d1, d2, d3, d4, d5, d6, d7, d8, d9, d10, d11, d12⟩ := HZC.out wx (Below.refl _ _)
  clear hA hZ
  by_cases k1 : ru.length = ru2.length
  case neg =>
    have f1 := natNeR k1
    obtain rfl : R = false := N1.out (fun e => k1 (by have := congrArg List.length e; simpa using this))
    clear k1
    go_wp2_with fail
    go_ret
    exact ⟨rfl, HB.out⟩
  have f1 := natEqR k1
  by_cases k2 : hr.length = hr2.length
  case neg =>
    have f2 := natNeR k2
    obtain rfl : R = false := N3.out (fun e => k2 (by rw [e]))
    clear k1 k2
    go_wp2_with fail
    go_ret
    exact ⟨rfl, HB.out⟩
  have f2 := natEqR k2
  by_cases k3 : ih.length = ih2.length
  case neg =>
    have f3 := natNeR k3
    obtain rfl : R = false := N4.out (fun e => k3 (by have := congrArg List.length e; simpa using this))
    clear k1 k2 k3
    go_wp2_with fail
    go_ret
    exact ⟨rfl, HB.out⟩
  have f3 := natEqR k3
  have K1 := Lib.hid k1
  have K2 := Lib.hid k2
  have K3 := Lib.hid k3
  clear k1 k2 k3
  cases S0
  case false =>
    obtain rfl : R = false := N2.out (of_decide_eq_false HS0.out)
    go_wp2_with (go_at_call 44; (with_reducible refine (HSM.out _ HB.out).mono ?_); rintro e w2 ⟨rfl, hb2⟩)
    go_ret
    exact ⟨rfl, bthen HB.out hb2⟩
  have Q2 := Lib.hid (of_decide_eq_true HS0.out)
  go_upto_region 3 with (go_at_call 44; (with_reducible refine (HSM.out _ HB.out).mono ?_); rintro e w2 ⟨rfl, hb2⟩)
  clear f1 f2 f3 c0 d0 c1 d1 c2 d2 c3 d3 c4 d4 c5 d5 c6 d6 c7 d7 c8 d8 c9 d9 c10 d10 c11 d11 c12 d12
  have HB2 := Lib.hid (bthen HB.out hb2)
  have HAC2 := Lib.hid (fun W (hW : Below w2.heap.size w2 W) => HAC.out _ (bthen hb2 hW))
  have HZC2 := Lib.hid (fun W (hW : Below w2.heap.size w2 W) => HZC.out _ (bthen hb2 hW))
  clear hb2 HAC HZC HSM HS0 N2 HB
  obtain ⟨c0, c1, c2, c3, c4, c5, c6, c7, c8, c9, c10, c11, c12⟩ := HAC2.out _ (Below.refl w2.heap.size w2)
  obtain ⟨d0, d1, d2, d3, d4, d5, d6, d7, d8, d9, d10, d11, d12⟩ := HZC2.out _ (Below.refl w2.heap.size w2)
  obtain ⟨I1, hI1, hgood, hend⟩ := rowsPm RuA.r ru ru2 K1.out
  have HG1 := Lib.hid hgood
  have HE1 := Lib.hid hend
  clear hgood hend
  have hl1 := HRA.out.1
  have hl2 := HRA.out.2.1
  have hm1 := HRB.out.1
  have hm2 := HRB.out.2.1
  unfold maxLen at hl2 hm2
  go_wp2_with fail
  clear c0 d0 c1 d1 c2 d2 c3 d3 c4 d4 c5 d5 c6 d6 c7 d7 c8 d8 c9 d9 c10 d10 c11 d11 c12 d12
  go_loopg [44, 5] ru.length (fun gg iv _ wr => ∃ k : Nat, k + gg = ru.length ∧ k ≤ I1 ∧ iv = .int .i64 (k : Int) ∧ Below w2.heap.size w2 wr)
  case atStart => exact ⟨0, by omega, Nat.zero_le _, rfl, (Below.refl w2.heap.size w2)⟩
  case round =>
    obtain ⟨k, hkg, hkI, rfl, hbr⟩ := hrel
    cases gk with
    | zero =>
      obtain rfl : k = ru.length := by omega
      have hq : ru.map RuA.r = ru2.map RuA.r := by
        rcases HE1.out with ⟨_, e⟩ | ⟨h1, _, _, _⟩
        · exact e
        · omega
      have QQ1 := Lib.hid hq
      have HBR1 := Lib.hid hbr
      clear hq hbr hkI hl1 hl2 hm1 hm2 HG1 HE1
      obtain ⟨c0, c1, c2, c3, c4, c5, c6, c7, c8, c9, c10, c11, c12⟩ := HAC2.out _ HBR1.out
      obtain ⟨d0, d1, d2, d3, d4, d5, d6, d7, d8, d9, d10, d11, d12⟩ := HZC2.out _ HBR1.out
      obtain ⟨I2, hI2, hgood, hend⟩ := rowsP hr hr2 K2.out
      have HG2 := Lib.hid hgood
      have HE2 := Lib.hid hend
      clear hgood hend
      have hl1 := HHA.out.1
      have hl2 := HHA.out.2.1
      have hm1 := HHB.out.1
      have hm2 := HHB.out.2.1
      unfold maxLen at hl2 hm2
      go_wp2_with fail
      clear c0 d0 c1 d1 c2 d2 c3 d3 c4 d4 c5 d5 c6 d6 c7 d7 c8 d8 c9 d9 c10 d10 c11 d11 c12 d12
      go_loopg [63, 6] hr.length (fun gg iv _ wr => ∃ k : Nat, k + gg = hr.length ∧ k ≤ I2 ∧ iv = .int .i64 (k : Int) ∧ Below w2.heap.size w2 wr)
      case atStart => exact ⟨0, by omega, Nat.zero_le _, rfl, HBR1.out⟩
      case round =>
        obtain ⟨k, hkg, hkI, rfl, hbr⟩ := hrel
        cases gk with
        | zero =>
          obtain rfl : k = hr.length := by omega
          have hq : hr = hr2 := by
            rcases HE2.out with ⟨_, e⟩ | ⟨h1, _, _, _⟩
            · exact e
            · omega
          have QQ2 := Lib.hid hq
          have HBR2 := Lib.hid hbr
          clear hq hbr hkI hl1 hl2 hm1 hm2 HG2 HE2
          obtain ⟨c0, c1, c2, c3, c4, c5, c6, c7, c8, c9, c10, c11, c12⟩ := HAC2.out _ HBR2.out
          obtain ⟨d0, d1, d2, d3, d4, d5, d6, d7, d8, d9, d10, d11, d12⟩ := HZC2.out _ HBR2.out
          obtain ⟨I3, hI3, hgood, hend⟩ := rowsPm inhT ih ih2 K3.out
          have HG3 := Lib.hid hgood
          have HE3 := Lib.hid hend
          clear hgood hend
          have hl1 := HIA.out.1
          have hl2 := HIA.out.2.1
          have hm1 := HIB.out.1
          have hm2 := HIB.out.2.1
          unfold maxLen at hl2 hm2
          go_wp2_with fail
          clear c0 d0 c1 d1 c2 d2 c3 d3 c4 d4 c5 d5 c6 d6 c7 d7 c8 d8 c9 d9 c10 d10 c11 d11 c12 d12
          go_loopg [81, 7] ih.length (fun gg iv _ wr => ∃ k : Nat, k + gg = ih.length ∧ k ≤ I3 ∧ iv = .int .i64 (k : Int) ∧ Below w2.heap.size w2 wr)
          case atStart => exact ⟨0, by omega, Nat.zero_le _, rfl, HBR2.out⟩
          case round =>
            obtain ⟨k, hkg, hkI, rfl, hbr⟩ := hrel
            cases gk with
            | zero =>
              obtain rfl : k = ih.length := by omega
              have hq : ih.map inhT = ih2.map inhT := by
                rcases HE3.out with ⟨_, e⟩ | ⟨h1, _, _, _⟩
                · exact e
                · omega
              have QQ3 := Lib.hid hq
              have HBR3 := Lib.hid hbr
              clear hq hbr hkI hl1 hl2 hm1 hm2 HG3 HE3
              obtain ⟨c0, c1, c2, c3, c4, c5, c6, c7, c8, c9, c10, c11, c12⟩ := HAC2.out _ HBR3.out
              obtain ⟨d0, d1, d2, d3, d4, d5, d6, d7, d8, d9, d10, d11, d12⟩ := HZC2.out _ HBR3.out
              have hy1 := Y1.out QQ1.out Q2.out QQ2.out QQ3.out
              have HBE := Lib.hid (bthen HB2.out HBR3.out)
              go_wp2_with (go_at_call 47; (with_reducible refine (HL9.out _ HBE.out).mono ?_); rintro e w9 ⟨rfl, hb9⟩)
              go_ret
              exact ⟨by rw [hy1]; rfl, bthen HBE.out hb9⟩
            | succ gg =>
              have hkl : k < ih.length := by omega
              have hkm : k < ih2.length := by have := K3.out; omega
              obtain ⟨b1, o1, rfl, _, hg1⟩ := HIA.out.place k hkl
              obtain ⟨b2, o2, rfl, _, hg2⟩ := HIB.out.place k hkm
              have hst : k < I3 → inhT ih[k] = inhT ih2[k] := fun h => HG3.out k hkl hkm h
              have hstop : k = I3 → inhT ih[k] ≠ inhT ih2[k] ∧ R = false := fun e => by
                rcases HE3.out with ⟨h1, _⟩ | ⟨_, _, h3, h4⟩
                · omega
                · subst e
                  exact ⟨h3, N4.out h4⟩
              have hokx := HIA.out.2.2.1 ih[k] (List.getElem_mem _)
              have hoky := HIB.out.2.2.1 ih2[k] (List.getElem_mem _)
              have hgx := GA.out ih[k] (List.getElem_mem _)
              have hgy := GB.out ih2[k] (List.getElem_mem _)
              obtain ⟨x, hx⟩ : ∃ x, ih[k] = x := ⟨_, rfl⟩
              obtain ⟨y, hy⟩ : ∃ y, ih2[k] = y := ⟨_, rfl⟩
              rw [hx] at hg1 hokx
              rw [hy] at hg2 hoky
              rw [hx, hy] at hst hstop
              rw [hx] at hgx
              rw [hy] at hgy
              have hbw := bthen HB2.out hbr
              have e0 := cellL hbw (hg1 0 _ rfl)
              have f0 := cellL hbw (hg2 0 _ rfl)
              have e1 := cellL hbw (hg1 1 _ rfl)
              have f1 := cellL hbw (hg2 1 _ rfl)
              have e2 := cellL hbw (hg1 2 _ rfl)
              have f2 := cellL hbw (hg2 2 _ rfl)
              rw [Nat.add_zero] at e0 f0
              clear hg1 hg2 hx hy
              go_upto_region 18 with fail
              obtain ⟨c0, c1, c2, c3, c4, c5, c6, c7, c8, c9, c10, c11, c12⟩ := HAC2.out _ hbr
              obtain ⟨d0, d1, d2, d3, d4, d5, d6, d7, d8, d9, d10, d11, d12⟩ := HZC2.out _ hbr
              have hS : (fun w' : World => w'.cell? ⟨g, 11, none⟩ = some (.slice (some ⟨b1, o1, none⟩) ih.length ic) ∧ w'.cell? ⟨g + 1, 11, none⟩ = some (.slice (some ⟨b2, o2, none⟩) ih2.length ic2) ∧ w'.cell? ⟨b1, o1 + k * 3, none⟩ = some (.slice x.sa x.s.length x.sc) ∧ w'.cell? ⟨b1, o1 + k * 3 + 1, none⟩ = some (.slice x.ta x.t.length x.tc) ∧ w'.cell? ⟨b1, o1 + k * 3 + 2, none⟩ = some (.slice x.ea x.e.length x.ec) ∧ w'.cell? ⟨b2, o2 + k * 3, none⟩ = some (.slice y.sa y.s.length y.sc) ∧ w'.cell? ⟨b2, o2 + k * 3 + 1, none⟩ = some (.slice y.ta y.t.length y.tc) ∧ w'.cell? ⟨b2, o2 + k * 3 + 2, none⟩ = some (.slice y.ea y.e.length y.ec)) wr.drew := ⟨c11, d11, e0, e1, e2, f0, f1, f2⟩
              have q1 : decide (k < ih.length) = true := decide_eq_true hkl
              have q2 : decide (k < ih2.length) = true := decide_eq_true hkm
              clear c0 d0 c1 d1 c2 d2 c3 d3 c4 d4 c5 d5 c6 d6 c7 d7 c8 d8 c9 d9 c10 d10 c11 d11 c12 d12 e0 f0 e1 f1 e2 f2
              have HBD := Lib.hid (bthen hbr (Below.refl wr.heap.size wr).drew)
              have HOX := Lib.hid (show InA.ok w x from hokx)
              have HOY := Lib.hid (show InA.ok w y from hoky)
              have HGX := Lib.hid hgx
              have HGY := Lib.hid hgy
              have hbd0 := HBD.out
              clear hokx hoky hgx hgy hbr hbw
              refine wp_region_marked (fun w' : World => w'.cell? ⟨g, 11, none⟩ = some (.slice (some ⟨b1, o1, none⟩) ih.length ic) ∧ w'.cell? ⟨g + 1, 11, none⟩ = some (.slice (some ⟨b2, o2, none⟩) ih2.length ic2) ∧ w'.cell? ⟨b1, o1 + k * 3, none⟩ = some (.slice x.sa x.s.length x.sc) ∧ w'.cell? ⟨b1, o1 + k * 3 + 1, none⟩ = some (.slice x.ta x.t.length x.tc) ∧ w'.cell? ⟨b1, o1 + k * 3 + 2, none⟩ = some (.slice x.ea x.e.length x.ec) ∧ w'.cell? ⟨b2, o2 + k * 3, none⟩ = some (.slice y.sa y.s.length y.sc) ∧ w'.cell? ⟨b2, o2 + k * 3 + 1, none⟩ = some (.slice y.ta y.t.length y.tc) ∧ w'.cell? ⟨b2, o2 + k * 3 + 2, none⟩ = some (.slice y.ea y.e.length y.ec)) 12 (by kernel_rfl) ?_
              refine wpAnyM_pure (v := ?v0L3) 0 rfl (by kernel_rfl) (by kernel_rfl) (by kernel_rfl) (by kernel_rfl) (by decide) (fun _ _ _ h => h) (Or.inl ⟨by rfl, ?hy0L3⟩) hS ?rest0L3
              case hy0L3 => intro wq hSw; go_simp; (try with_reducible rfl)
              case rest0L3 =>
              try simp only [Act.put, List.setIfInBounds_toArray, List.set_cons_zero, List.set_cons_succ]
              refine wpAnyM_loadP [5, 4, 3] (v := ?v1L3) 1 rfl (by kernel_rfl) (by kernel_rfl) (by kernel_rfl) (by kernel_rfl) (by decide) (by kernel_rfl) (fun _ _ _ h => h) (Or.inl ⟨by rfl, ?hy1L3⟩) hS ?rest1L3
              case hy1L3 => intro wq hSw; (try dsimp only at hSw); obtain ⟨s0, s1, s2, s3, s4, s5, s6, s7⟩ := hSw; go_simp; (try with_reducible rfl)
              case rest1L3 =>
              try simp only [Act.put, List.setIfInBounds_toArray, List.set_cons_zero, List.set_cons_succ]
              refine wpAnyM_pure (v := ?v2L3) 2 rfl (by kernel_rfl) (by kernel_rfl) (by kernel_rfl) (by kernel_rfl) (by decide) (fun _ _ _ h => h) (Or.inl ⟨by rfl, ?hy2L3⟩) hS ?rest2L3
              case hy2L3 => intro wq hSw; go_simp; (try with_reducible rfl)
              case rest2L3 =>
              try simp only [Act.put, List.setIfInBounds_toArray, List.set_cons_zero, List.set_cons_succ]
              refine wpAnyM_pure (v := ?v3L3) 3 rfl (by kernel_rfl) (by kernel_rfl) (by kernel_rfl) (by kernel_rfl) (by decide) (fun _ _ _ h => h) (Or.inl ⟨by rfl, ?hy3L3⟩) hS ?rest3L3
              case hy3L3 => intro wq hSw; go_simp; (try with_reducible rfl)
              case rest3L3 =>
              try simp only [Act.put, List.setIfInBounds_toArray, List.set_cons_zero, List.set_cons_succ]
              refine wpAnyM_loadP [5] (v := ?v4L3) 4 rfl (by kernel_rfl) (by kernel_rfl) (by kernel_rfl) (by kernel_rfl) (by decide) (by kernel_rfl) (fun _ _ _ h => h) (Or.inl ⟨by rfl, ?hy4L3⟩) hS ?rest4L3
              case hy4L3 => intro wq hSw; (try dsimp only at hSw); obtain ⟨s0, s1, s2, s3, s4, s5, s6, s7⟩ := hSw; go_simp; (try with_reducible rfl)
              case rest4L3 =>
              try simp only [Act.put, List.setIfInBounds_toArray, List.set_cons_zero, List.set_cons_succ]
              refine wpAnyM_pure (v := ?v6L3) 6 rfl (by kernel_rfl) (by kernel_rfl) (by kernel_rfl) (by kernel_rfl) (by decide) (fun _ _ _ h => h) (Or.inl ⟨by rfl, ?hy6L3⟩) hS ?rest6L3
              case hy6L3 => intro wq hSw; go_simp; (try with_reducible rfl)
              case rest6L3 =>
              try simp only [Act.put, List.setIfInBounds_toArray, List.set_cons_zero, List.set_cons_succ]
              refine wpAnyM_loadP [11, 10, 9] (v := ?v7L3) 7 rfl (by kernel_rfl) (by kernel_rfl) (by kernel_rfl) (by kernel_rfl) (by decide) (by kernel_rfl) (fun _ _ _ h => h) (Or.inl ⟨by rfl, ?hy7L3⟩) hS ?rest7L3
              case hy7L3 => intro wq hSw; (try dsimp only at hSw); obtain ⟨s0, s1, s2, s3, s4, s5, s6, s7⟩ := hSw; go_simp; (try with_reducible rfl)
              case rest7L3 =>
              try simp only [Act.put, List.setIfInBounds_toArray, List.set_cons_zero, List.set_cons_succ]
              refine wpAnyM_pure (v := ?v8L3) 8 rfl (by kernel_rfl) (by kernel_rfl) (by kernel_rfl) (by kernel_rfl) (by decide) (fun _ _ _ h => h) (Or.inl ⟨by rfl, ?hy8L3⟩) hS ?rest8L3
              case hy8L3 => intro wq hSw; go_simp; (try with_reducible rfl)
              case rest8L3 =>
              try simp only [Act.put, List.setIfInBounds_toArray, List.set_cons_zero, List.set_cons_succ]
              refine wpAnyM_pure (v := ?v9L3) 9 rfl (by kernel_rfl) (by kernel_rfl) (by kernel_rfl) (by kernel_rfl) (by decide) (fun _ _ _ h => h) (Or.inl ⟨by rfl, ?hy9L3⟩) hS ?rest9L3
              case hy9L3 => intro wq hSw; go_simp; (try with_reducible rfl)
              case rest9L3 =>
              try simp only [Act.put, List.setIfInBounds_toArray, List.set_cons_zero, List.set_cons_succ]
              refine wpAnyM_loadP [11] (v := ?v10L3) 10 rfl (by kernel_rfl) (by kernel_rfl) (by kernel_rfl) (by kernel_rfl) (by decide) (by kernel_rfl) (fun _ _ _ h => h) (Or.inl ⟨by rfl, ?hy10L3⟩) hS ?rest10L3
              case hy10L3 => intro wq hSw; (try dsimp only at hSw); obtain ⟨s0, s1, s2, s3, s4, s5, s6, s7⟩ := hSw; go_simp; (try with_reducible rfl)
              case rest10L3 =>
              try simp only [Act.put, List.setIfInBounds_toArray, List.set_cons_zero, List.set_cons_succ]
              refine wpAnyM_one 5 rfl (by kernel_rfl) (fun K hK => ?_)
              go_simp
              go_at_call 46
              refine (rQuiet_any x _ (HOX.out.call (bthen HB2.out hbd0)) HGX.out).mono ?_
              rintro e u1 ⟨rfl, hd1⟩
              have hbd1 := bthen hbd0 hd1
              have hS1 : (fun w' : World => w'.cell? ⟨g, 11, none⟩ = some (.slice (some ⟨b1, o1, none⟩) ih.length ic) ∧ w'.cell? ⟨g + 1, 11, none⟩ = some (.slice (some ⟨b2, o2, none⟩) ih2.length ic2) ∧ w'.cell? ⟨b1, o1 + k * 3, none⟩ = some (.slice x.sa x.s.length x.sc) ∧ w'.cell? ⟨b1, o1 + k * 3 + 1, none⟩ = some (.slice x.ta x.t.length x.tc) ∧ w'.cell? ⟨b1, o1 + k * 3 + 2, none⟩ = some (.slice x.ea x.e.length x.ec) ∧ w'.cell? ⟨b2, o2 + k * 3, none⟩ = some (.slice y.sa y.s.length y.sc) ∧ w'.cell? ⟨b2, o2 + k * 3 + 1, none⟩ = some (.slice y.ta y.t.length y.tc) ∧ w'.cell? ⟨b2, o2 + k * 3 + 2, none⟩ = some (.slice y.ea y.e.length y.ec)) u1 := ⟨cellL hd1 hS.1, cellL hd1 hS.2.1, cellL hd1 hS.2.2.1, cellL hd1 hS.2.2.2.1, cellL hd1 hS.2.2.2.2.1, cellL hd1 hS.2.2.2.2.2.1, cellL hd1 hS.2.2.2.2.2.2.1, cellL hd1 hS.2.2.2.2.2.2.2⟩
              refine hK.out _ _ hS1 ?_
              clear hS
              have hS := hS1
              clear hS1
              clear hK
              try simp only [Act.put, List.setIfInBounds_toArray, List.set_cons_zero, List.set_cons_succ]
              refine wpAnyM_one 11 rfl (by kernel_rfl) (fun K hK => ?_)
              go_simp
              go_at_call 46
              refine (rQuiet_any y _ (HOY.out.call (bthen HB2.out hbd1)) HGY.out).mono ?_
              rintro e u2 ⟨rfl, hd2⟩
              have hbd2 := bthen hbd1 hd2
              have hS2 : (fun w' : World => w'.cell? ⟨g, 11, none⟩ = some (.slice (some ⟨b1, o1, none⟩) ih.length ic) ∧ w'.cell? ⟨g + 1, 11, none⟩ = some (.slice (some ⟨b2, o2, none⟩) ih2.length ic2) ∧ w'.cell? ⟨b1, o1 + k * 3, none⟩ = some (.slice x.sa x.s.length x.sc) ∧ w'.cell? ⟨b1, o1 + k * 3 + 1, none⟩ = some (.slice x.ta x.t.length x.tc) ∧ w'.cell? ⟨b1, o1 + k * 3 + 2, none⟩ = some (.slice x.ea x.e.length x.ec) ∧ w'.cell? ⟨b2, o2 + k * 3, none⟩ = some (.slice y.sa y.s.length y.sc) ∧ w'.cell? ⟨b2, o2 + k * 3 + 1, none⟩ = some (.slice y.ta y.t.length y.tc) ∧ w'.cell? ⟨b2, o2 + k * 3 + 2, none⟩ = some (.slice y.ea y.e.length y.ec)) u2 := ⟨cellL hd2 hS.1, cellL hd2 hS.2.1, cellL hd2 hS.2.2.1, cellL hd2 hS.2.2.2.1, cellL hd2 hS.2.2.2.2.1, cellL hd2 hS.2.2.2.2.2.1, cellL hd2 hS.2.2.2.2.2.2.1, cellL hd2 hS.2.2.2.2.2.2.2⟩
              refine hK.out _ _ hS2 ?_
              clear hS
              have hS := hS2
              clear hS2
              clear hK
              try simp only [Act.put, List.setIfInBounds_toArray, List.set_cons_zero, List.set_cons_succ]
              refine wpAnyM_tail rfl (by decide) (by decide) (by kernel_rfl) ?_
              simp only [List.drop_succ_cons, List.drop_zero]
              have hse := strEq (inhT x) (inhT y)
              generalize inhT x = sx at *
              generalize inhT y = sy at *
              by_cases hj : k = I3
              · obtain ⟨hne, rfl⟩ := hstop hj
                rw [decide_eq_false hne] at hse
                clear hst hstop hj hkI hne
                go_wp2_with fail
                go_ret
                exact ⟨rfl, bthen HB2.out hbd2⟩
              · have he := hst (by omega)
                rw [decide_eq_true he] at hse
                clear hst hstop he
                go_wp2_with fail
                go_roundg gg
                case measure => omega
                case rel => exact ⟨k + 1, by omega, by omega, by go_num, hbd2⟩
        | succ gg =>
          have hkl : k < hr.length := by omega
          have hkm : k < hr2.length := by have := K2.out; omega
          obtain ⟨b1, o1, rfl, _, hg1⟩ := HHA.out.place k hkl
          obtain ⟨b2, o2, rfl, _, hg2⟩ := HHB.out.place k hkm
          have hst : k < I2 → hr[k] = hr2[k] := fun h => HG2.out k hkl hkm h
          have hstop : k = I2 → hr[k] ≠ hr2[k] ∧ R = false := fun e => by
            rcases HE2.out with ⟨h1, _⟩ | ⟨_, _, h3, h4⟩
            · omega
            · subst e
              exact ⟨h3, N3.out h4⟩
          have hokx := HHA.out.2.2.1 hr[k] (List.getElem_mem _)
          have hoky := HHB.out.2.2.1 hr2[k] (List.getElem_mem _)
          obtain ⟨x, hx⟩ : ∃ x, hr[k] = x := ⟨_, rfl⟩
          obtain ⟨y, hy⟩ : ∃ y, hr2[k] = y := ⟨_, rfl⟩
          rw [hx] at hg1 hokx
          rw [hy] at hg2 hoky
          rw [hx, hy] at hst hstop
          have hbw := bthen HB2.out hbr
          have e0 := cellL hbw (hg1 0 _ rfl)
          have f0 := cellL hbw (hg2 0 _ rfl)
          have e1 := cellL hbw (hg1 1 _ rfl)
          have f1 := cellL hbw (hg2 1 _ rfl)
          have e2 := cellL hbw (hg1 2 _ rfl)
          have f2 := cellL hbw (hg2 2 _ rfl)
          have e3 := cellL hbw (hg1 3 _ rfl)
          have f3 := cellL hbw (hg2 3 _ rfl)
          rw [Nat.add_zero] at e0 f0
          clear hg1 hg2 hx hy
          go_upto_region 12 with fail
          obtain ⟨c0, c1, c2, c3, c4, c5, c6, c7, c8, c9, c10, c11, c12⟩ := HAC2.out _ hbr
          obtain ⟨d0, d1, d2, d3, d4, d5, d6, d7, d8, d9, d10, d11, d12⟩ := HZC2.out _ hbr
          have hS : (fun w' : World => w'.cell? ⟨g, 12, none⟩ = some (.slice (some ⟨b1, o1, none⟩) hr.length hc) ∧ w'.cell? ⟨g + 1, 12, none⟩ = some (.slice (some ⟨b2, o2, none⟩) hr2.length hc2) ∧ w'.cell? ⟨b1, o1 + k * 4, none⟩ = some (.string x.n) ∧ w'.cell? ⟨b1, o1 + k * 4 + 1, none⟩ = some (.int .i64 x.d) ∧ w'.cell? ⟨b1, o1 + k * 4 + 2, none⟩ = some (.int .i64 x.f) ∧ w'.cell? ⟨b1, o1 + k * 4 + 3, none⟩ = some (.int .i64 x.t) ∧ w'.cell? ⟨b2, o2 + k * 4, none⟩ = some (.string y.n) ∧ w'.cell? ⟨b2, o2 + k * 4 + 1, none⟩ = some (.int .i64 y.d) ∧ w'.cell? ⟨b2, o2 + k * 4 + 2, none⟩ = some (.int .i64 y.f) ∧ w'.cell? ⟨b2, o2 + k * 4 + 3, none⟩ = some (.int .i64 y.t)) wr.drew := ⟨c12, d12, e0, e1, e2, e3, f0, f1, f2, f3⟩
          have q1 : decide (k < hr.length) = true := decide_eq_true hkl
          have q2 : decide (k < hr2.length) = true := decide_eq_true hkm
          clear c0 d0 c1 d1 c2 d2 c3 d3 c4 d4 c5 d5 c6 d6 c7 d7 c8 d8 c9 d9 c10 d10 c11 d11 c12 d12 e0 f0 e1 f1 e2 f2 e3 f3
          have HBD := Lib.hid (bthen hbr (Below.refl wr.heap.size wr).drew)
          clear hokx hoky hbw
          refine wp_region_marked (fun w' : World => w'.cell? ⟨g, 12, none⟩ = some (.slice (some ⟨b1, o1, none⟩) hr.length hc) ∧ w'.cell? ⟨g + 1, 12, none⟩ = some (.slice (some ⟨b2, o2, none⟩) hr2.length hc2) ∧ w'.cell? ⟨b1, o1 + k * 4, none⟩ = some (.string x.n) ∧ w'.cell? ⟨b1, o1 + k * 4 + 1, none⟩ = some (.int .i64 x.d) ∧ w'.cell? ⟨b1, o1 + k * 4 + 2, none⟩ = some (.int .i64 x.f) ∧ w'.cell? ⟨b1, o1 + k * 4 + 3, none⟩ = some (.int .i64 x.t) ∧ w'.cell? ⟨b2, o2 + k * 4, none⟩ = some (.string y.n) ∧ w'.cell? ⟨b2, o2 + k * 4 + 1, none⟩ = some (.int .i64 y.d) ∧ w'.cell? ⟨b2, o2 + k * 4 + 2, none⟩ = some (.int .i64 y.f) ∧ w'.cell? ⟨b2, o2 + k * 4 + 3, none⟩ = some (.int .i64 y.t)) 10 (by kernel_rfl) ?_
          refine wpAnyM_pure (v := ?v0L2) 0 rfl (by kernel_rfl) (by kernel_rfl) (by kernel_rfl) (by kernel_rfl) (by decide) (fun _ _ _ h => h) (Or.inl ⟨by rfl, ?hy0L2⟩) hS ?rest0L2
          case hy0L2 => intro wq hSw; go_simp; (try with_reducible rfl)
          case rest0L2 =>
          try simp only [Act.put, List.setIfInBounds_toArray, List.set_cons_zero, List.set_cons_succ]
          refine wpAnyM_loadP [4, 3] (v := ?v1L2) 1 rfl (by kernel_rfl) (by kernel_rfl) (by kernel_rfl) (by kernel_rfl) (by decide) (by kernel_rfl) (fun _ _ _ h => h) (Or.inl ⟨by rfl, ?hy1L2⟩) hS ?rest1L2
          case hy1L2 => intro wq hSw; (try dsimp only at hSw); obtain ⟨s0, s1, s2, s3, s4, s5, s6, s7, s8, s9⟩ := hSw; go_simp; (try with_reducible rfl)
          case rest1L2 =>
          try simp only [Act.put, List.setIfInBounds_toArray, List.set_cons_zero, List.set_cons_succ]
          refine wpAnyM_pure (v := ?v2L2) 2 rfl (by kernel_rfl) (by kernel_rfl) (by kernel_rfl) (by kernel_rfl) (by decide) (fun _ _ _ h => h) (Or.inl ⟨by rfl, ?hy2L2⟩) hS ?rest2L2
          case hy2L2 => intro wq hSw; go_simp; (try with_reducible rfl)
          case rest2L2 =>
          try simp only [Act.put, List.setIfInBounds_toArray, List.set_cons_zero, List.set_cons_succ]
          refine wpAnyM_pure (v := ?v3L2) 3 rfl (by kernel_rfl) (by kernel_rfl) (by kernel_rfl) (by kernel_rfl) (by decide) (fun _ _ _ h => h) (Or.inl ⟨by rfl, ?hy3L2⟩) hS ?rest3L2
          case hy3L2 => intro wq hSw; go_simp; (try with_reducible rfl)
          case rest3L2 =>
          try simp only [Act.put, List.setIfInBounds_toArray, List.set_cons_zero, List.set_cons_succ]
          refine wpAnyM_loadP [] (v := ?v4L2) 4 rfl (by kernel_rfl) (by kernel_rfl) (by kernel_rfl) (by kernel_rfl) (by decide) (by kernel_rfl) (fun _ _ _ h => h) (Or.inl ⟨by rfl, ?hy4L2⟩) hS ?rest4L2
          case hy4L2 => intro wq hSw; (try dsimp only at hSw); obtain ⟨s0, s1, s2, s3, s4, s5, s6, s7, s8, s9⟩ := hSw; go_simp; (try with_reducible rfl)
          case rest4L2 =>
          try simp only [Act.put, List.setIfInBounds_toArray, List.set_cons_zero, List.set_cons_succ]
          refine wpAnyM_pure (v := ?v5L2) 5 rfl (by kernel_rfl) (by kernel_rfl) (by kernel_rfl) (by kernel_rfl) (by decide) (fun _ _ _ h => h) (Or.inl ⟨by rfl, ?hy5L2⟩) hS ?rest5L2
          case hy5L2 => intro wq hSw; go_simp; (try with_reducible rfl)
          case rest5L2 =>
          try simp only [Act.put, List.setIfInBounds_toArray, List.set_cons_zero, List.set_cons_succ]
          refine wpAnyM_loadP [9, 8] (v := ?v6L2) 6 rfl (by kernel_rfl) (by kernel_rfl) (by kernel_rfl) (by kernel_rfl) (by decide) (by kernel_rfl) (fun _ _ _ h => h) (Or.inl ⟨by rfl, ?hy6L2⟩) hS ?rest6L2
          case hy6L2 => intro wq hSw; (try dsimp only at hSw); obtain ⟨s0, s1, s2, s3, s4, s5, s6, s7, s8, s9⟩ := hSw; go_simp; (try with_reducible rfl)
          case rest6L2 =>
          try simp only [Act.put, List.setIfInBounds_toArray, List.set_cons_zero, List.set_cons_succ]
          refine wpAnyM_pure (v := ?v7L2) 7 rfl (by kernel_rfl) (by kernel_rfl) (by kernel_rfl) (by kernel_rfl) (by decide) (fun _ _ _ h => h) (Or.inl ⟨by rfl, ?hy7L2⟩) hS ?rest7L2
          case hy7L2 => intro wq hSw; go_simp; (try with_reducible rfl)
          case rest7L2 =>
          try simp only [Act.put, List.setIfInBounds_toArray, List.set_cons_zero, List.set_cons_succ]
          refine wpAnyM_pure (v := ?v8L2) 8 rfl (by kernel_rfl) (by kernel_rfl) (by kernel_rfl) (by kernel_rfl) (by decide) (fun _ _ _ h => h) (Or.inl ⟨by rfl, ?hy8L2⟩) hS ?rest8L2
          case hy8L2 => intro wq hSw; go_simp; (try with_reducible rfl)
          case rest8L2 =>
          try simp only [Act.put, List.setIfInBounds_toArray, List.set_cons_zero, List.set_cons_succ]
          refine wpAnyM_loadP [] (v := ?v9L2) 9 rfl (by kernel_rfl) (by kernel_rfl) (by kernel_rfl) (by kernel_rfl) (by decide) (by kernel_rfl) (fun _ _ _ h => h) (Or.inl ⟨by rfl, ?hy9L2⟩) hS ?rest9L2
          case hy9L2 => intro wq hSw; (try dsimp only at hSw); obtain ⟨s0, s1, s2, s3, s4, s5, s6, s7, s8, s9⟩ := hSw; go_simp; (try with_reducible rfl)
          case rest9L2 =>
          try simp only [Act.put, List.setIfInBounds_toArray, List.set_cons_zero, List.set_cons_succ]
          refine wpAnyM_tail rfl (by decide) (by decide) (by kernel_rfl) ?_
          simp only [List.drop_succ_cons, List.drop_zero]
          have hne := fun W => run_neq_hrs x y W
          obtain ⟨X, hX⟩ : ∃ X, eqB (x = y) = X := ⟨_, rfl⟩
          rw [hX] at hne
          by_cases hj : k = I2
          · obtain ⟨hn, rfl⟩ := hstop hj
            obtain rfl : X = false := by rw [← hX]; exact eqB_no hn
            clear hst hstop hj hkI hn hX hS hbr
            go_wp2_with fail
            go_ret
            exact ⟨rfl, bthen HB2.out HBD.out⟩
          · have he := hst (by omega)
            obtain rfl : X = true := by rw [← hX]; exact eqB_yes he
            clear hst hstop he hX hS hbr
            go_wp2_with fail
            go_roundg gg
            case measure => omega
            case rel => exact ⟨k + 1, by omega, by omega, by go_num, HBD.out⟩
    | succ gg =>
      have hkl : k < ru.length := by omega
      have hkm : k < ru2.length := by have := K1.out; omega
      obtain ⟨b1, o1, rfl, _, hg1⟩ := HRA.out.place k hkl
      obtain ⟨b2, o2, rfl, _, hg2⟩ := HRB.out.place k hkm
      have hst : k < I1 → ru[k].r = ru2[k].r := fun h => HG1.out k hkl hkm h
      have hstop : k = I1 → ru[k].r ≠ ru2[k].r ∧ R = false := fun e => by
        rcases HE1.out with ⟨h1, _⟩ | ⟨_, _, h3, h4⟩
        · omega
        · subst e
          exact ⟨h3, N1.out h4⟩
      have hokx := HRA.out.2.2.1 ru[k] (List.getElem_mem _)
      have hoky := HRB.out.2.2.1 ru2[k] (List.getElem_mem _)
      obtain ⟨x, hx⟩ : ∃ x, ru[k] = x := ⟨_, rfl⟩
      obtain ⟨y, hy⟩ : ∃ y, ru2[k] = y := ⟨_, rfl⟩
      rw [hx] at hg1 hokx
      rw [hy] at hg2 hoky
      rw [hx, hy] at hst hstop
      have hbw := bthen HB2.out hbr
      have e0 := cellL hbw (hg1 0 _ rfl)
      have f0 := cellL hbw (hg2 0 _ rfl)
      have e1 := cellL hbw (hg1 1 _ rfl)
      have f1 := cellL hbw (hg2 1 _ rfl)
      have e2 := cellL hbw (hg1 2 _ rfl)
      have f2 := cellL hbw (hg2 2 _ rfl)
      have e3 := cellL hbw (hg1 3 _ rfl)
      have f3 := cellL hbw (hg2 3 _ rfl)
      have e4 := cellL hbw (hg1 4 _ rfl)
      have f4 := cellL hbw (hg2 4 _ rfl)
      have e5 := cellL hbw (hg1 5 _ rfl)
      have f5 := cellL hbw (hg2 5 _ rfl)
      have e6 := cellL hbw (hg1 6 _ rfl)
      have f6 := cellL hbw (hg2 6 _ rfl)
      have e7 := cellL hbw (hg1 7 _ rfl)
      have f7 := cellL hbw (hg2 7 _ rfl)
      rw [Nat.add_zero] at e0 f0
      clear hg1 hg2 hx hy
      go_upto_region 6 with fail
      obtain ⟨c0, c1, c2, c3, c4, c5, c6, c7, c8, c9, c10, c11, c12⟩ := HAC2.out _ hbr
      obtain ⟨d0, d1, d2, d3, d4, d5, d6, d7, d8, d9, d10, d11, d12⟩ := HZC2.out _ hbr
      have hS : (fun w' : World => w'.cell? ⟨g, 0, none⟩ = some (.slice (some ⟨b1, o1, none⟩) ru.length uc) ∧ w'.cell? ⟨g + 1, 0, none⟩ = some (.slice (some ⟨b2, o2, none⟩) ru2.length uc2) ∧ w'.cell? ⟨b1, o1 + k * 8, none⟩ = some (.string x.r.name) ∧ w'.cell? ⟨b1, o1 + k * 8 + 1, none⟩ = some (.string x.r.metric) ∧ w'.cell? ⟨b1, o1 + k * 8 + 2, none⟩ = some (.int .i64 x.r.how) ∧ w'.cell? ⟨b1, o1 + k * 8 + 3, none⟩ = some (.int .i64 x.r.limit) ∧ w'.cell? ⟨b1, o1 + k * 8 + 4, none⟩ = some (.int .i64 x.r.fr) ∧ w'.cell? ⟨b1, o1 + k * 8 + 5, none⟩ = some (.int .i64 x.r.keep) ∧ w'.cell? ⟨b1, o1 + k * 8 + 6, none⟩ = some (.int .i64 x.r.tries) ∧ w'.cell? ⟨b1, o1 + k * 8 + 7, none⟩ = some (.slice x.a x.r.labels.length x.c) ∧ w'.cell? ⟨b2, o2 + k * 8, none⟩ = some (.string y.r.name) ∧ w'.cell? ⟨b2, o2 + k * 8 + 1, none⟩ = some (.string y.r.metric) ∧ w'.cell? ⟨b2, o2 + k * 8 + 2, none⟩ = some (.int .i64 y.r.how) ∧ w'.cell? ⟨b2, o2 + k * 8 + 3, none⟩ = some (.int .i64 y.r.limit) ∧ w'.cell? ⟨b2, o2 + k * 8 + 4, none⟩ = some (.int .i64 y.r.fr) ∧ w'.cell? ⟨b2, o2 + k * 8 + 5, none⟩ = some (.int .i64 y.r.keep) ∧ w'.cell? ⟨b2, o2 + k * 8 + 6, none⟩ = some (.int .i64 y.r.tries) ∧ w'.cell? ⟨b2, o2 + k * 8 + 7, none⟩ = some (.slice y.a y.r.labels.length y.c)) wr.drew := ⟨c0, d0, e0, e1, e2, e3, e4, e5, e6, e7, f0, f1, f2, f3, f4, f5, f6, f7⟩
      have q1 : decide (k < ru.length) = true := decide_eq_true hkl
      have q2 : decide (k < ru2.length) = true := decide_eq_true hkm
      clear c0 d0 c1 d1 c2 d2 c3 d3 c4 d4 c5 d5 c6 d6 c7 d7 c8 d8 c9 d9 c10 d10 c11 d11 c12 d12 e0 f0 e1 f1 e2 f2 e3 f3 e4 f4 e5 f5 e6 f6 e7 f7
      have HBD := Lib.hid (bthen hbr (Below.refl wr.heap.size wr).drew)
      have hlk := rrLike_any x.r y.r x.a y.a x.c y.c wr.drew (RulAt.call (show RulAt w x.r x.a x.c from hokx) (bthen hbw (Below.refl wr.heap.size wr).drew)) (RulAt.call (show RulAt w y.r y.a y.c from hoky) (bthen hbw (Below.refl wr.heap.size wr).drew))
      obtain ⟨X, hX⟩ : ∃ X, likeR x.r y.r = X := ⟨_, rfl⟩
      rw [hX] at hlk
      simp only [rCells] at hlk
      have HLK := Lib.hid hlk
      have HX := Lib.hid hX
      clear hlk hX hokx hoky hbr hbw
      refine wp_region_marked (fun w' : World => w'.cell? ⟨g, 0, none⟩ = some (.slice (some ⟨b1, o1, none⟩) ru.length uc) ∧ w'.cell? ⟨g + 1, 0, none⟩ = some (.slice (some ⟨b2, o2, none⟩) ru2.length uc2) ∧ w'.cell? ⟨b1, o1 + k * 8, none⟩ = some (.string x.r.name) ∧ w'.cell? ⟨b1, o1 + k * 8 + 1, none⟩ = some (.string x.r.metric) ∧ w'.cell? ⟨b1, o1 + k * 8 + 2, none⟩ = some (.int .i64 x.r.how) ∧ w'.cell? ⟨b1, o1 + k * 8 + 3, none⟩ = some (.int .i64 x.r.limit) ∧ w'.cell? ⟨b1, o1 + k * 8 + 4, none⟩ = some (.int .i64 x.r.fr) ∧ w'.cell? ⟨b1, o1 + k * 8 + 5, none⟩ = some (.int .i64 x.r.keep) ∧ w'.cell? ⟨b1, o1 + k * 8 + 6, none⟩ = some (.int .i64 x.r.tries) ∧ w'.cell? ⟨b1, o1 + k * 8 + 7, none⟩ = some (.slice x.a x.r.labels.length x.c) ∧ w'.cell? ⟨b2, o2 + k * 8, none⟩ = some (.string y.r.name) ∧ w'.cell? ⟨b2, o2 + k * 8 + 1, none⟩ = some (.string y.r.metric) ∧ w'.cell? ⟨b2, o2 + k * 8 + 2, none⟩ = some (.int .i64 y.r.how) ∧ w'.cell? ⟨b2, o2 + k * 8 + 3, none⟩ = some (.int .i64 y.r.limit) ∧ w'.cell? ⟨b2, o2 + k * 8 + 4, none⟩ = some (.int .i64 y.r.fr) ∧ w'.cell? ⟨b2, o2 + k * 8 + 5, none⟩ = some (.int .i64 y.r.keep) ∧ w'.cell? ⟨b2, o2 + k * 8 + 6, none⟩ = some (.int .i64 y.r.tries) ∧ w'.cell? ⟨b2, o2 + k * 8 + 7, none⟩ = some (.slice y.a y.r.labels.length y.c)) 11 (by kernel_rfl) ?_
      refine wpAnyM_pure (v := ?v0L1) 0 rfl (by kernel_rfl) (by kernel_rfl) (by kernel_rfl) (by kernel_rfl) (by decide) (fun _ _ _ h => h) (Or.inl ⟨by rfl, ?hy0L1⟩) hS ?rest0L1
      case hy0L1 => intro wq hSw; go_simp; (try with_reducible rfl)
      case rest0L1 =>
      try simp only [Act.put, List.setIfInBounds_toArray, List.set_cons_zero, List.set_cons_succ]
      refine wpAnyM_loadP [10, 4, 3] (v := ?v1L1) 1 rfl (by kernel_rfl) (by kernel_rfl) (by kernel_rfl) (by kernel_rfl) (by decide) (by kernel_rfl) (fun _ _ _ h => h) (Or.inl ⟨by rfl, ?hy1L1⟩) hS ?rest1L1
      case hy1L1 => intro wq hSw; (try dsimp only at hSw); obtain ⟨s0, s1, s2, s3, s4, s5, s6, s7, s8, s9, s10, s11, s12, s13, s14, s15, s16, s17⟩ := hSw; go_simp; (try with_reducible rfl)
      case rest1L1 =>
      try simp only [Act.put, List.setIfInBounds_toArray, List.set_cons_zero, List.set_cons_succ]
      refine wpAnyM_pure (v := ?v2L1) 2 rfl (by kernel_rfl) (by kernel_rfl) (by kernel_rfl) (by kernel_rfl) (by decide) (fun _ _ _ h => h) (Or.inl ⟨by rfl, ?hy2L1⟩) hS ?rest2L1
      case hy2L1 => intro wq hSw; go_simp; (try with_reducible rfl)
      case rest2L1 =>
      try simp only [Act.put, List.setIfInBounds_toArray, List.set_cons_zero, List.set_cons_succ]
      refine wpAnyM_pure (v := ?v3L1) 3 rfl (by kernel_rfl) (by kernel_rfl) (by kernel_rfl) (by kernel_rfl) (by decide) (fun _ _ _ h => h) (Or.inl ⟨by rfl, ?hy3L1⟩) hS ?rest3L1
      case hy3L1 => intro wq hSw; go_simp; (try with_reducible rfl)
      case rest3L1 =>
      try simp only [Act.put, List.setIfInBounds_toArray, List.set_cons_zero, List.set_cons_succ]
      refine wpAnyM_loadP [10] (v := ?v4L1) 4 rfl (by kernel_rfl) (by kernel_rfl) (by kernel_rfl) (by kernel_rfl) (by decide) (by kernel_rfl) (fun _ _ _ h => h) (Or.inl ⟨by rfl, ?hy4L1⟩) hS ?rest4L1
      case hy4L1 => intro wq hSw; (try dsimp only at hSw); obtain ⟨s0, s1, s2, s3, s4, s5, s6, s7, s8, s9, s10, s11, s12, s13, s14, s15, s16, s17⟩ := hSw; go_simp; (try with_reducible rfl)
      case rest4L1 =>
      try simp only [Act.put, List.setIfInBounds_toArray, List.set_cons_zero, List.set_cons_succ]
      refine wpAnyM_pure (v := ?v5L1) 5 rfl (by kernel_rfl) (by kernel_rfl) (by kernel_rfl) (by kernel_rfl) (by decide) (fun _ _ _ h => h) (Or.inl ⟨by rfl, ?hy5L1⟩) hS ?rest5L1
      case hy5L1 => intro wq hSw; go_simp; (try with_reducible rfl)
      case rest5L1 =>
      try simp only [Act.put, List.setIfInBounds_toArray, List.set_cons_zero, List.set_cons_succ]
      refine wpAnyM_loadP [10, 9, 8] (v := ?v6L1) 6 rfl (by kernel_rfl) (by kernel_rfl) (by kernel_rfl) (by kernel_rfl) (by decide) (by kernel_rfl) (fun _ _ _ h => h) (Or.inl ⟨by rfl, ?hy6L1⟩) hS ?rest6L1
      case hy6L1 => intro wq hSw; (try dsimp only at hSw); obtain ⟨s0, s1, s2, s3, s4, s5, s6, s7, s8, s9, s10, s11, s12, s13, s14, s15, s16, s17⟩ := hSw; go_simp; (try with_reducible rfl)
      case rest6L1 =>
      try simp only [Act.put, List.setIfInBounds_toArray, List.set_cons_zero, List.set_cons_succ]
      refine wpAnyM_pure (v := ?v7L1) 7 rfl (by kernel_rfl) (by kernel_rfl) (by kernel_rfl) (by kernel_rfl) (by decide) (fun _ _ _ h => h) (Or.inl ⟨by rfl, ?hy7L1⟩) hS ?rest7L1
      case hy7L1 => intro wq hSw; go_simp; (try with_reducible rfl)
      case rest7L1 =>
      try simp only [Act.put, List.setIfInBounds_toArray, List.set_cons_zero, List.set_cons_succ]
      refine wpAnyM_pure (v := ?v8L1) 8 rfl (by kernel_rfl) (by kernel_rfl) (by kernel_rfl) (by kernel_rfl) (by decide) (fun _ _ _ h => h) (Or.inl ⟨by rfl, ?hy8L1⟩) hS ?rest8L1
      case hy8L1 => intro wq hSw; go_simp; (try with_reducible rfl)
      case rest8L1 =>
      try simp only [Act.put, List.setIfInBounds_toArray, List.set_cons_zero, List.set_cons_succ]
      refine wpAnyM_loadP [10] (v := ?v9L1) 9 rfl (by kernel_rfl) (by kernel_rfl) (by kernel_rfl) (by kernel_rfl) (by decide) (by kernel_rfl) (fun _ _ _ h => h) (Or.inl ⟨by rfl, ?hy9L1⟩) hS ?rest9L1
      case hy9L1 => intro wq hSw; (try dsimp only at hSw); obtain ⟨s0, s1, s2, s3, s4, s5, s6, s7, s8, s9, s10, s11, s12, s13, s14, s15, s16, s17⟩ := hSw; go_simp; (try with_reducible rfl)
      case rest9L1 =>
      try simp only [Act.put, List.setIfInBounds_toArray, List.set_cons_zero, List.set_cons_succ]
      refine wpAnyM_one 10 rfl (by kernel_rfl) (fun K hK => ?_)
      go_simp
      go_at_call 45
      refine HLK.out.mono ?_
      rintro e u1 ⟨rfl, hd1⟩
      have hS1 : (fun w' : World => w'.cell? ⟨g, 0, none⟩ = some (.slice (some ⟨b1, o1, none⟩) ru.length uc) ∧ w'.cell? ⟨g + 1, 0, none⟩ = some (.slice (some ⟨b2, o2, none⟩) ru2.length uc2) ∧ w'.cell? ⟨b1, o1 + k * 8, none⟩ = some (.string x.r.name) ∧ w'.cell? ⟨b1, o1 + k * 8 + 1, none⟩ = some (.string x.r.metric) ∧ w'.cell? ⟨b1, o1 + k * 8 + 2, none⟩ = some (.int .i64 x.r.how) ∧ w'.cell? ⟨b1, o1 + k * 8 + 3, none⟩ = some (.int .i64 x.r.limit) ∧ w'.cell? ⟨b1, o1 + k * 8 + 4, none⟩ = some (.int .i64 x.r.fr) ∧ w'.cell? ⟨b1, o1 + k * 8 + 5, none⟩ = some (.int .i64 x.r.keep) ∧ w'.cell? ⟨b1, o1 + k * 8 + 6, none⟩ = some (.int .i64 x.r.tries) ∧ w'.cell? ⟨b1, o1 + k * 8 + 7, none⟩ = some (.slice x.a x.r.labels.length x.c) ∧ w'.cell? ⟨b2, o2 + k * 8, none⟩ = some (.string y.r.name) ∧ w'.cell? ⟨b2, o2 + k * 8 + 1, none⟩ = some (.string y.r.metric) ∧ w'.cell? ⟨b2, o2 + k * 8 + 2, none⟩ = some (.int .i64 y.r.how) ∧ w'.cell? ⟨b2, o2 + k * 8 + 3, none⟩ = some (.int .i64 y.r.limit) ∧ w'.cell? ⟨b2, o2 + k * 8 + 4, none⟩ = some (.int .i64 y.r.fr) ∧ w'.cell? ⟨b2, o2 + k * 8 + 5, none⟩ = some (.int .i64 y.r.keep) ∧ w'.cell? ⟨b2, o2 + k * 8 + 6, none⟩ = some (.int .i64 y.r.tries) ∧ w'.cell? ⟨b2, o2 + k * 8 + 7, none⟩ = some (.slice y.a y.r.labels.length y.c)) u1 := ⟨cellL hd1 hS.1, cellL hd1 hS.2.1, cellL hd1 hS.2.2.1, cellL hd1 hS.2.2.2.1, cellL hd1 hS.2.2.2.2.1, cellL hd1 hS.2.2.2.2.2.1, cellL hd1 hS.2.2.2.2.2.2.1, cellL hd1 hS.2.2.2.2.2.2.2.1, cellL hd1 hS.2.2.2.2.2.2.2.2.1, cellL hd1 hS.2.2.2.2.2.2.2.2.2.1, cellL hd1 hS.2.2.2.2.2.2.2.2.2.2.1, cellL hd1 hS.2.2.2.2.2.2.2.2.2.2.2.1, cellL hd1 hS.2.2.2.2.2.2.2.2.2.2.2.2.1, cellL hd1 hS.2.2.2.2.2.2.2.2.2.2.2.2.2.1, cellL hd1 hS.2.2.2.2.2.2.2.2.2.2.2.2.2.2.1, cellL hd1 hS.2.2.2.2.2.2.2.2.2.2.2.2.2.2.2.1, cellL hd1 hS.2.2.2.2.2.2.2.2.2.2.2.2.2.2.2.2.1, cellL hd1 hS.2.2.2.2.2.2.2.2.2.2.2.2.2.2.2.2.2⟩
      refine hK.out _ _ hS1 ?_
      clear hS
      have hS := hS1
      clear hS1
      clear hK
      try simp only [Act.put, List.setIfInBounds_toArray, List.set_cons_zero, List.set_cons_succ]
      refine wpAnyM_tail rfl (by decide) (by decide) (by kernel_rfl) ?_
      simp only [List.drop_succ_cons, List.drop_zero]
      by_cases hj : k = I1
      · obtain ⟨hn, rfl⟩ := hstop hj
        obtain rfl : X = false := by
          rw [← HX.out, Bool.eq_false_iff]
          exact fun e => hn ((likeR_iff _ _).1 e)
        clear hst hstop hj hkI hn hS
        go_wp2_with fail
        go_ret
        exact ⟨rfl, bthen HB2.out (bthen HBD.out hd1)⟩
      · have he := hst (by omega)
        obtain rfl : X = true := by rw [← HX.out]; exact (likeR_iff _ _).2 he
        clear hst hstop he hS
        go_wp2_with fail
        go_roundg gg
        case measure => omega
        case rel => exact ⟨k + 1, by omega, by omega, by go_num, bthen HBD.out hd1⟩
end Go.Proofs.YtmhekhilgllciaaGreat
/- Normal forms, the program's and the document's, are like one another or not as those of the two configurations are. Mathematics. -/
namespace Go.Proofs.YtmhekhilgllciaaGreat
open Go.RowKit Go.Lib Go.Sort

/-- the normal form that the document makes, where it does not matter where it lies -/
def docK (k : CfA) : CfA := { k with ru := pkR k.ru, re := pkS k.re, ih := pkI k.ih, hr := pkH k.hr }
theorem docK_norm {k : CfA} (hc : cfgC k = true) : NormDoc k (docK k) := norm_is hc rfl rfl rfl rfl rfl
theorem doc_good {k d : CfA} (hc : cfgC k = true) (hd : NormDoc k d) : ∀ z ∈ d.ih, InA.good z = true := fun z hz => (cfgC_good hc).2.2.2.1 z (hd.2.2.2.2.2.1 z hz)
theorem norm_good {k n : CfA} (hc : cfgC k = true) (hn : NormOf k n) : ∀ z ∈ n.ih, InA.good z = true := fun z hz => (cfgC_good hc).2.2.2.1 z ((normOf_strict hc hn).2.1 z hz)
theorem doc_doc {k d e : CfA} (hc : cfgC k = true) (hd : NormDoc k d) (he : NormDoc k e) : SameTx d e := by
  obtain ⟨_, n1, n2, _, _, n3, _⟩ := cfgC_good hc
  obtain ⟨a1, a2, a3, a4, a5, a6, a7⟩ := hd
  obtain ⟨b1, b2, b3, b4, b5, b6, b7⟩ := he
  exact ⟨by rw [a1, b1], sortedN_uniq a2 b2 n1, a3.trans b3.symm, sortedN_uniq a4 b4 n3, strict_uniq a5 b5 (fun x hx => b7 x (a6 x hx)) (fun y hy => a7 y (b6 y hy))⟩
/-- are the normal forms of two the same? -/
noncomputable def likeK (a b : CfA) : Bool := sameK (docK a) (docK b)
theorem like_docs {a b x y : CfA} (ha : cfgC a = true) (hb : cfgC b = true) (hx : NormDoc a x) (hy : NormDoc b y) : sameK x y = likeK a b :=
  sameTx_cong (doc_good ha hx) (doc_good hb hy) (doc_good ha (docK_norm ha)) (doc_good hb (docK_norm hb)) (doc_doc ha hx (docK_norm ha)) (doc_doc hb hy (docK_norm hb))
theorem like_norms {a b x y : CfA} (ha : cfgC a = true) (hb : cfgC b = true) (hx : NormOf a x) (hy : NormOf b y) : sameK x y = likeK a b :=
  sameTx_cong (norm_good ha hx) (norm_good hb hy) (doc_good ha (docK_norm ha)) (doc_good hb (docK_norm hb)) (norm_doc ha hx (docK_norm ha)) (norm_doc hb hy (docK_norm hb))
theorem like_mixed {a x y : CfA} (ha : cfgC a = true) (hx : NormOf a x) (hy : NormDoc a y) : sameK x y = true :=
  sameTx_like (norm_good ha hx) (doc_good ha hy) (norm_doc ha hx hy)
theorem like_self {a : CfA} (ha : cfgC a = true) : likeK a a = true :=
  sameTx_like (doc_good ha (docK_norm ha)) (doc_good ha (docK_norm ha)) ⟨rfl, rfl, rfl, rfl, rfl⟩
theorem keep_later {B0 : Nat} {w w1 W : World} (hB : B0 ≤ w.heap.size) (h : Below w.heap.size w w1) (hW : Below w1.heap.size w1 W) : Keep B0 w w1 W :=
  ⟨(h.mono hB).trans (hW.mono (Nat.le_trans hB h.size)), hW.size, fun q _ h2 => hW.block q h2⟩
/-- config.Same of two that may be -/
theorem same_yes {a b : CfA} {w : World} (ha : cfgC a = true) (hb : cfgC b = true) (hka : a.ok w) (hkb : b.ok w) : Calls Tryz.prog 12 #[.agg (kCells a), .agg (kCells b)] w (BoolB (likeK a b) w) := by
  refine (cfgSame_any a b w hka hkb).mono ?_
  rintro e w' ⟨hb', X, rfl, ⟨h | h, _⟩ | ⟨_, _, ka, kb, h1, h2, rfl⟩⟩
  · rw [ha] at h; cases h
  · rw [hb] at h; cases h
  · exact ⟨by rw [like_norms ha hb h1 h2], hb'⟩
theorem same_no {a b : CfA} {w : World} (hc : cfgC a = false ∨ cfgC b = false) (hka : a.ok w) (hkb : b.ok w) : Calls Tryz.prog 12 #[.agg (kCells a), .agg (kCells b)] w (BoolB false w) := by
  refine (cfgSame_any a b w hka hkb).mono ?_
  rintro e w' ⟨hb', X, rfl, ⟨_, rfl⟩ | ⟨h1, h2, _⟩⟩
  · exact ⟨rfl, hb'⟩
  · rcases hc with h | h
    · rw [h1] at h; cases h
    · rw [h2] at h; cases h
end Go.Proofs.YtmhekhilgllciaaGreat
/- The contract of config's statements' own count of routes. -/
namespace Go.Proofs.YtmhekhilgllciaaGreat
open Go.RowKit

def ManyP10 (q : RtAt) (m : Nat) (w : World) (e : Ending) (w' : World) : Prop :=
  ∃ z : Nat, e = .returned (.int .i64 (z : Int)) ∧ 1 ≤ z ∧ z ≤ m + 1 ∧ (z ≤ m → z = q.n.count) ∧ Below w.heap.size w w'

set_option maxHeartbeats 6400000 in
set_option maxRecDepth 100000 in
theorem many10_any {w0 : World} {q : RtAt} (h : q.ok w0) : ∀ (w : World) (m : Nat), Below w0.heap.size w0 w → m ≤ 1000 → Calls Tryz.prog 14 #[.agg (tCells q), .int .i64 (m : Int)] w (ManyP10 q m w) := by
  induction h with
  | flat q h0 h1 =>
    intro w m _ hm
    have hb := (Below.refl w.heap.size w).alloc (Nat.le_refl _) (.cells (tCells q) 27)
    have hB := Blk.new w 27 (tCells q)
    have hc : q.n.count = 1 := by rw [Rt.count_eq, h1]; rfl
    have hz : q.n.kids.length = 0 := by rw [h1]; rfl
    have HB := Lib.hid hb
    have HC := Lib.hid hc
    have HZ := Lib.hid hz
    clear hb hc h0 h1 hz
    obtain ⟨n, ma, mc, ba, bc, ua, uc, ka, kc⟩ := q
    simp only [tCells] at *
    go_enter Tryz.func14, Tryz.ntmps14
    go_upto_region 1 with fail
    generalize w.alloc (.cells #[.string n.recv, .slice ma n.ms.length mc, .slice ba n.bys.length bc, .int .i64 n.wait, .int .i64 n.every, .int .i64 n.rep, .slice ua n.mute.length uc, .bool n.on, .slice ka n.kids.length kc] 27) = wx at *
    obtain ⟨c0, c1, c2, c3, c4, c5, c6, c7, c8⟩ := hB.cells9
    have hz := HZ.out
    go_wp2_with fail
    refine wp_loop_rounds 1 ?_
    rw [rounds_succ]
    go_wp2_with fail
    go_ret
    exact ⟨1, rfl, by omega, by omega, fun _ => HC.out.symm, HB.out⟩
  | row q b off R h0 h1 h2 h3 h4 h5 ih =>
    intro w m hw hm
    have hb := (Below.refl w.heap.size w).alloc (Nat.le_refl _) (.cells (tCells q) 27)
    have hB := Blk.new w 27 (tCells q)
    have hl := h0.2
    have H3 := Lib.hid h3
    have H4 := Lib.hid h4
    have IH := Lib.hid ih
    have HB := Lib.hid hb
    have HW := Lib.hid hw
    have hcnt := Rt.count_eq q.n
    have HCN := Lib.hid hcnt
    clear h0 h2 h3 h4 h5 ih hw hcnt
    obtain ⟨n, ma, mc, ba, bc, ua, uc, ka, kc⟩ := q
    simp only [tCells] at *
    subst h1
    unfold maxLen at hl
    have lic := hl.1
    have lic2 := hl.2
    go_enter Tryz.func14, Tryz.ntmps14
    go_upto_region 1 with fail
    have HW1 := Lib.hid (HW.out.trans (hb.mono HW.out.size))
    generalize w.alloc (.cells #[.string n.recv, .slice ma n.ms.length mc, .slice ba n.bys.length bc, .int .i64 n.wait, .int .i64 n.every, .int .i64 n.rep, .slice ua n.mute.length uc, .bool n.on, .slice (some ⟨b, off, none⟩) n.kids.length kc] 27) = wx at *
    obtain ⟨c0, c1, c2, c3, c4, c5, c6, c7, c8⟩ := hB.cells9
    clear hb
    go_wp2_with fail
    go_loopg [11, 5, 7] n.kids.length (fun gg iv kv _ wr => ∃ k z : Nat, k + gg = n.kids.length ∧ iv = .int .i64 k ∧ kv = .int .i64 z ∧ 1 ≤ z ∧ z ≤ m + 1 ∧ (z ≤ m → z = 1 + countRs (n.kids.take k)) ∧ Below wx.heap.size wx wr)
    case atStart => exact ⟨0, 1, by omega, rfl, rfl, by omega, by omega, fun _ => by simp [countRs], Below.refl _ _⟩
    case round =>
      obtain ⟨k, z, hkg, rfl, rfl, hz1, hzm, hzc, hbr⟩ := hrel
      have HZ := Lib.hid hzc
      have HBR := Lib.hid hbr
      clear hzc hbr
      cases gk with
      | zero =>
        obtain rfl : k = n.kids.length := by omega
        go_wp2_with fail
        go_ret
        exact ⟨z, rfl, by omega, by omega, fun h => by rw [HCN.out, HZ.out h, List.take_length], bthen HB.out HBR.out⟩
      | succ gg =>
        have hkl : k < n.kids.length := by omega
        have hrn := H3.out k hkl
        have hrl := (H4.out k hkl).call (HW1.out)
        obtain ⟨e0, e1, e2, e3, e4, e5, e6, e7, e8⟩ := hrl.call HBR.out
        have hct := countRs_take n.kids k hkl
        rw [← hrn] at hct
        have hih := IH.out k hkl (wr.alloc (.cells (tCells (R k)) 27)) (m - z) (HW1.out.trans ((HBR.out.mono HW1.out.size).trans (((Below.refl wr.heap.size wr).alloc (Nat.le_refl _) _).mono (Nat.le_trans HW1.out.size HBR.out.size)))) (by omega)
        have hbn := (Below.refl wr.heap.size wr).alloc (Nat.le_refl _) (.cells (tCells (R k)) 27)
        obtain ⟨f0, f1, f2, f3, f4, f5, f6, f7, f8⟩ := (Blk.new wr 27 (tCells (R k))).cells9
        have HIH := Lib.hid hih
        have HBN := Lib.hid hbn
        have HCT := Lib.hid hct
        clear hrn hrl hct hih hbn H3 H4 IH
        generalize R k = r at *
        obtain ⟨r, ma', mc', ba', bc', ua', uc', ka', kc'⟩ := r
        simp only [tCells] at *
        by_cases hzm2 : z ≤ m
        case neg =>
          go_wp2_with fail
          go_ret
          exact ⟨z, rfl, by omega, by omega, fun h => by omega, bthen HB.out (bthen HBR.out HBN.out)⟩
        case pos =>
          have hsub : ((m - z : Nat) : Int) = (m : Int) - (z : Int) := by omega
          rw [hsub] at HIH
          clear hsub
          go_wp2_with (go_at_call 14; refine HIH.out.mono ?_; rintro e w3 ⟨y, rfl, hy1, hy2, hy3, hb3⟩)
          go_roundg gg
          case measure => omega
          case rel => exact ⟨k + 1, z + y, by omega, by go_num, by go_num, by omega, by omega, fun h => by rw [HCT.out, ← hy3 (by omega)]; have := HZ.out hzm2; omega, bthen HBR.out (bthen HBN.out hb3)⟩
end Go.Proofs.YtmhekhilgllciaaGreat
/- The contract of config's statements' own measure of a configuration. -/
namespace Go.Proofs.YtmhekhilgllciaaGreat
open Go.RowKit

/-- what is told of how much there is: where it is not too much, all of it is little -/
def BigP (k : CfA) (w : World) (e : Ending) (w' : World) : Prop := ∃ b : Bool, e = .returned (.bool b) ∧ Below w.heap.size w w' ∧ (b = false → k.rt.n.count ≤ 40 ∧ k.ru.length ≤ 18 ∧ k.re.length ≤ 18 ∧ k.ih.length ≤ 10 ∧ k.hr.length ≤ 10)
set_option maxHeartbeats 6400000 in
set_option maxRecDepth 100000 in
theorem big_any (k : CfA) (w : World) (h : k.ok w) : Calls Tryz.prog 5 #[.agg (kCells k)] w (BigP k w) := by
  have hb := (Below.refl w.heap.size w).alloc (Nat.le_refl _) (.cells (kCells k) 31)
  have hA := Blk.new w 31 (kCells k)
  have HM := Lib.hid (fun W (hW : Below w.heap.size w W) => many10_any h.2.1 W 40 hW (by omega))
  have HB := Lib.hid hb
  clear hb h
  obtain ⟨ru, ua, uc, ⟨n, ma, mc, ba, bc, ma2, mc2, ka, kc⟩, re, ra, rc, ih, ia, ic, hr, ha, hc⟩ := k
  simp only [tCells, kCells] at *
  obtain ⟨c0, c1, c2, c3, c4, c5, c6, c7, c8, c9, c10, c11, c12⟩ := hA.cells13
  go_enter Tryz.func5, Tryz.ntmps5
  go_upto_region 1 with fail
  generalize w.alloc (.cells #[.slice ua ru.length uc, .string n.recv, .slice ma n.ms.length mc, .slice ba n.bys.length bc, .int .i64 n.wait, .int .i64 n.every, .int .i64 n.rep, .slice ma2 n.mute.length mc2, .bool n.on, .slice ka n.kids.length kc, .slice ra re.length rc, .slice ia ih.length ic, .slice ha hr.length hc] 31) = wx at *
  obtain ⟨g, hg⟩ : ∃ g, w.heap.size = g := ⟨_, rfl⟩
  rw [hg] at hA c0 c1 c2 c3 c4 c5 c6 c7 c8 c9 c10 c11 c12 ⊢
  have HA := Lib.hid hA
  clear hA hg
  obtain ⟨R1, hR1⟩ : ∃ R, decide (18 < ru.length) = R := ⟨_, rfl⟩
  obtain ⟨R2, hR2⟩ : ∃ R, decide (18 < re.length) = R := ⟨_, rfl⟩
  obtain ⟨R3, hR3⟩ : ∃ R, decide (10 < ih.length) = R := ⟨_, rfl⟩
  obtain ⟨R4, hR4⟩ : ∃ R, decide (10 < hr.length) = R := ⟨_, rfl⟩
  have e1 : decide ((18 : Int) < (ru.length : Int)) = R1 := by rw [← hR1]; exact decide_eq_decide.2 (by omega)
  have e2 : decide ((18 : Int) < (re.length : Int)) = R2 := by rw [← hR2]; exact decide_eq_decide.2 (by omega)
  have e3 : decide ((10 : Int) < (ih.length : Int)) = R3 := by rw [← hR3]; exact decide_eq_decide.2 (by omega)
  have e4 : decide ((10 : Int) < (hr.length : Int)) = R4 := by rw [← hR4]; exact decide_eq_decide.2 (by omega)
  have HRR := Lib.hid (And.intro hR1 (And.intro hR2 (And.intro hR3 hR4)))
  clear hR1 hR2 hR3 hR4
  go_wp2_with (go_at_call 14; refine (HM.out _ HB.out).mono ?_; rintro e w2 ⟨z, rfl, hz1, hz2, hz3, hb2⟩; have hbe := bthen HB.out hb2; obtain ⟨d0, d1, d2, d3, d4, d5, d6, d7, d8, d9, d10, d11, d12⟩ := (HA.out.call hb2).cells13)
  all_goals
    go_ret
    refine ⟨_, rfl, hbe, fun hb => ?_⟩
    obtain ⟨q1, q2, q3, q4⟩ := HRR.out
    first
      | cases hb
      | (simp_all
         omega)
end Go.Proofs.YtmhekhilgllciaaGreat
/- The contract of config's statements' own sign of life. -/
namespace Go.Proofs.YtmhekhilgllciaaGreat
open Go.RowKit Go.Lib Go.Sort

def rtA : RtAt := ⟨.mk ⟨#[111, 112, 115]⟩ [] [] 0 1 1 [] false [], none, 0, none, 0, none, 0, none, 0⟩
def kA (re : List ByteArray) (a : Option Addr) (c : Nat) : CfA := ⟨[], none, 0, rtA, re, a, c, [], none, 0, [], none, 0⟩
theorem kA_sort : sortS [⟨#[111, 112, 115]⟩, ⟨#[100, 101, 118]⟩] = [⟨#[100, 101, 118]⟩, ⟨#[111, 112, 115]⟩] := by
  have h : srtB (bsOf [⟨#[111, 112, 115]⟩, ⟨#[100, 101, 118]⟩]) = [[100, 101, 118], [111, 112, 115]] := by
    simp [srtB, bsOf, List.mergeSort, List.merge, List.MergeSort.Internal.splitInTwo]
    rfl
  unfold sortS
  rw [h]
  rfl
theorem once_nil : onceS [] = true := (onceB_iff []).2 .nil
theorem once_od : onceS [⟨#[111, 112, 115]⟩, ⟨#[100, 101, 118]⟩] = true := (onceB_iff _).2 (by decide)
theorem once_do : onceS [⟨#[100, 101, 118]⟩, ⟨#[111, 112, 115]⟩] = true := (onceB_iff _).2 (by decide)
theorem kA_right (re : List ByteArray) (a : Option Addr) (c : Nat) (h1 : re = [⟨#[111, 112, 115]⟩, ⟨#[100, 101, 118]⟩] ∨ re = [⟨#[100, 101, 118]⟩, ⟨#[111, 112, 115]⟩]) : cfgC (kA re a c) = true := by
  rcases h1 with rfl | rfl
  · simp only [cfgC, kA, List.map_nil, once_nil, once_od]
    kernel_rfl
  · simp only [cfgC, kA, List.map_nil, once_nil, once_do]
    kernel_rfl
theorem right_of (k2 : CfA) (h1 : k2.ru = []) (h2 : k2.rt = rtA) (h3 : k2.re = [⟨#[100, 101, 118]⟩, ⟨#[111, 112, 115]⟩]) (h4 : k2.ih = []) (h5 : k2.hr = []) : cfgC k2 = true := by
  have h := kA_right k2.re k2.ra k2.rc (.inr h3)
  obtain ⟨ru, ua, uc, rt, re, ra, rc, ih, ia, ic, hr, ha, hc⟩ := k2
  simp only at *
  subst h1 h2 h4 h5
  exact h
theorem nil_row {A : Type} {sz : Nat} {enc : A → List Value} {ok : World → A → Prop} {w : World} : HasRow sz enc ok w none 0 ([] : List A) := ⟨Nat.le_refl _, by unfold maxLen; omega, (fun x hx => by cases hx), .inl rfl⟩
theorem nil_mats {w : World} : HasMats w none 0 [] := by
  refine ⟨Nat.le_refl _, by unfold maxLen; omega, .inl rfl⟩
theorem nil_strs {w : World} : HasStrs w none 0 [] := ⟨Nat.le_refl _, by unfold maxLen; omega, (fun x hx => by cases hx), .inl rfl⟩
theorem kA_ok (w : World) (re : List ByteArray) (a : Option Addr) (c : Nat) (h : HasStrs w a c re) : (kA re a c).ok w := by
  refine ⟨nil_row, .flat _ ⟨⟨nil_mats, nil_strs, nil_strs, ?_, ?_, ?_⟩, Nat.le_refl _, Nat.zero_le _⟩ rfl, h, nil_row, nil_row⟩
  · show (3 : Nat) ≤ 1048576
    omega
  · exact ⟨rfl, rfl, rfl⟩
  · exact ⟨Nat.zero_le _, Nat.zero_le _, Nat.zero_le _⟩
theorem kA_norm (w : World) (a : Option Addr) (c : Nat) (h : HasStrs w a c [⟨#[111, 112, 115]⟩, ⟨#[100, 101, 118]⟩]) :
    Calls Tryz.prog 7 #[.agg (kCells (kA [⟨#[111, 112, 115]⟩, ⟨#[100, 101, 118]⟩] a c))] w (fun e w' => ∃ (k2 : CfA) (b off : Nat), e = .returned (.tuple #[.agg (kCells k2), .int .i64 0]) ∧ Below w.heap.size w w' ∧ k2.ok w' ∧ k2.re = [⟨#[100, 101, 118]⟩, ⟨#[111, 112, 115]⟩] ∧ k2.ra = some ⟨b, off, none⟩ ∧ w'.cell? ⟨b, off, none⟩ = some (.string ⟨#[100, 101, 118]⟩) ∧ cfgC k2 = true) := by
  refine (cfgNormal_any _ w w.heap.size (Nat.le_refl _) (fun W hW => (kA_ok w _ a c h).call hW)).mono fun e w' ⟨hb, hh⟩ => ?_
  rcases hh with ⟨_, k2, he, hk0, h1, h2, h3, ⟨ys, h4, h5⟩, h6⟩ | ⟨hbad, _⟩
  · have hk := hk0 w' (Keep.refl (Nat.le_refl _) hb)
    have e1 : k2.ru = [] := List.Perm.eq_nil h2.1
    have e2 : ys = [] := List.Perm.eq_nil h4.1
    have e3 : k2.hr = [] := List.Perm.eq_nil h6.1
    have e4 : k2.ih = [] := by rw [h5, e2]; rfl
    have e5 : k2.re = [⟨#[100, 101, 118]⟩, ⟨#[111, 112, 115]⟩] := h3.trans kA_sort
    rcases hk.2.2.1.2.2.2 with h7 | ⟨b, off, h7, _, h8⟩
    · rw [e5] at h7
      cases h7
    · refine ⟨k2, b, off, he, hb, hk, e5, h7, ?_, right_of k2 e1 h1 e5 e4 e3⟩
      have h9 := h8 0 (by rw [e5]; simp)
      simpa [e5] using h9
  · rw [kA_right _ _ _ (.inl rfl)] at hbad
    cases hbad
set_option maxHeartbeats 6400000 in
set_option maxRecDepth 100000 in
theorem alive10_any (w : World) : Calls Tryz.prog 6 #[] w (fun e w' => e = .returned (.bool true) ∧ Below w.heap.size w w') := by
  have hb := (Below.refl w.heap.size w).alloc (Nat.le_refl _) (.cells #[.string ⟨#[111, 112, 115]⟩, .string ⟨#[100, 101, 118]⟩] 9)
  have hB := Blk.new w 9 #[.string ⟨#[111, 112, 115]⟩, .string ⟨#[100, 101, 118]⟩]
  have hn := kA_norm (w.alloc (.cells #[.string ⟨#[111, 112, 115]⟩, .string ⟨#[100, 101, 118]⟩] 9)) (some ⟨w.heap.size, 0, none⟩) 2 ⟨Nat.le_refl _, by unfold maxLen; omega, fun s hs => by
      simp at hs
      rcases hs with rfl | rfl <;> decide, .inr ⟨_, 0, rfl, hB.lt, fun i hi => by
      have : i = 0 ∨ i = 1 := by simp at hi; omega
      rcases this with rfl | rfl
      · exact hB.cell 0
      · exact hB.cell 1⟩⟩
  rw [show kCells (kA [⟨#[111, 112, 115]⟩, ⟨#[100, 101, 118]⟩] (some ⟨w.heap.size, 0, none⟩) 2) = #[.slice none 0 0, .string ⟨#[111, 112, 115]⟩, .slice none 0 0, .slice none 0 0, .int .i64 0, .int .i64 1, .int .i64 1, .slice none 0 0, .bool false, .slice none 0 0, .slice (some ⟨w.heap.size, 0, none⟩) 2 2, .slice none 0 0, .slice none 0 0] from rfl] at hn
  have HN := Lib.hid hn
  have HB := Lib.hid hb
  clear hn hb hB
  go_enter Tryz.func6, Tryz.ntmps6
  go_upto_region 2 with (go_at_call 7; refine HN.out.mono ?_; rintro e w2 ⟨⟨ru, ua, uc, ⟨n, ma, mc, ba, bc, ma2, mc2, ka, kc⟩, re, ra, rc, ih, ia, ic, hr, ha, hc⟩, b, off, rfl, hb2, hk2, hre, hra, hrc, hc2⟩; simp only at hre hra; subst hre hra)
  have hb3 := (Below.refl w2.heap.size w2).alloc (Nat.le_refl _) (.cells #[.slice ua ru.length uc, .string n.recv, .slice ma n.ms.length mc, .slice ba n.bys.length bc, .int .i64 n.wait, .int .i64 n.every, .int .i64 n.rep, .slice ma2 n.mute.length mc2, .bool n.on, .slice ka n.kids.length kc, .slice (some ⟨b, off, none⟩) 2 rc, .slice ia ih.length ic, .slice ha hr.length hc] 31)
  have hA := Blk.new w2 31 #[.slice ua ru.length uc, .string n.recv, .slice ma n.ms.length mc, .slice ba n.bys.length bc, .int .i64 n.wait, .int .i64 n.every, .int .i64 n.rep, .slice ma2 n.mute.length mc2, .bool n.on, .slice ka n.kids.length kc, .slice (some ⟨b, off, none⟩) 2 rc, .slice ia ih.length ic, .slice ha hr.length hc]
  have hr1 := (hb3.cell (World.block_lt_of_cell? _ _ hrc)).trans hrc
  have hr2 := hk2.2.2.1.1
  have HR : Hid (∀ W, (Below w2.heap.size w2 W) → Calls Tryz.prog 9 #[.agg (kCells ⟨ru, ua, uc, ⟨n, ma, mc, ba, bc, ma2, mc2, ka, kc⟩, [⟨#[100, 101, 118]⟩, ⟨#[111, 112, 115]⟩], some ⟨b, off, none⟩, rc, ih, ia, ic, hr, ha, hc⟩)] W (BoolB true W)) := fun W hW => by
    have := cfgRight_any ⟨ru, ua, uc, ⟨n, ma, mc, ba, bc, ma2, mc2, ka, kc⟩, [⟨#[100, 101, 118]⟩, ⟨#[111, 112, 115]⟩], some ⟨b, off, none⟩, rc, ih, ia, ic, hr, ha, hc⟩ W (hk2.call hW)
    rwa [hc2] at this
  have HB2 := Lib.hid (bthen HB.out hb2)
  have HB3 := Lib.hid hb3
  have hkc : kCells ⟨ru, ua, uc, ⟨n, ma, mc, ba, bc, ma2, mc2, ka, kc⟩, [⟨#[100, 101, 118]⟩, ⟨#[111, 112, 115]⟩], some ⟨b, off, none⟩, rc, ih, ia, ic, hr, ha, hc⟩ = #[.slice ua ru.length uc, .string n.recv, .slice ma n.ms.length mc, .slice ba n.bys.length bc, .int .i64 n.wait, .int .i64 n.every, .int .i64 n.rep, .slice ma2 n.mute.length mc2, .bool n.on, .slice ka n.kids.length kc, .slice (some ⟨b, off, none⟩) 2 rc, .slice ia ih.length ic, .slice ha hr.length hc] := rfl
  simp only [hkc] at HR ⊢
  clear hkc hk2 hc2 hb3 hb2 HN HB
  obtain ⟨c0, c1, c2, c3, c4, c5, c6, c7, c8, c9, c10, c11, c12⟩ := hA.cells13
  generalize w2.alloc (.cells #[.slice ua ru.length uc, .string n.recv, .slice ma n.ms.length mc, .slice ba n.bys.length bc, .int .i64 n.wait, .int .i64 n.every, .int .i64 n.rep, .slice ma2 n.mute.length mc2, .bool n.on, .slice ka n.kids.length kc, .slice (some ⟨b, off, none⟩) 2 rc, .slice ia ih.length ic, .slice ha hr.length hc] 31) = wx at *
  clear hA
  go_wp2_with (go_at_call 9; refine (HR.out _ HB3.out).mono ?_; rintro e w3 ⟨rfl, hb4⟩)
  go_ret
  exact ⟨rfl, HB2.out.trans ((HB3.out.trans (hb4.mono HB3.out.size)).mono HB2.out.size)⟩
end Go.Proofs.YtmhekhilgllciaaGreat
