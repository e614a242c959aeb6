/- The contract of config.Same. -/
import Derived.Test.YtmhekhilgllciaaGreatMg13
import Derived.Test.YtmhekhilgllciaaGreatMg14
import Derived.Test.YtmhekhilgllciaaGreatMg10
import Derived.Test.YtmhekhilgllciaaGreatMg12
import Derived.Test.YtmhekhilgllciaaGreatMg2
import Derived.Test.YtmhekhilgllciaaGreatBlkG
import Derived.Deep.RegionWith
import Derived.Test.YtmhekhilgllciaaGreatLater
import Derived.IntWalk
namespace Go.Proofs.YtmhekhilgllciaaGreat
open Go.RowKit Go.Lib Go.Sort

/-- two normal forms are the same -/
noncomputable def sameK (x y : CfA) : Bool := eqB (x.ru.map RuA.r = y.ru.map RuA.r) && (eqB (x.rt.n = y.rt.n) && (decide (x.re = y.re) && (eqB (x.ih.map InA.val = y.ih.map InA.val) && eqB (x.hr = y.hr))))
def SameP (a b : CfA) (w : World) (e : Ending) (w' : World) : Prop :=
  Below w.heap.size w w' ∧ ∃ X : Bool, e = .returned (.bool X) ∧ ((cfgC a = false ∨ cfgC b = false) ∧ X = false ∨ cfgC a = true ∧ cfgC b = true ∧ ∃ ka kb, NormOf a ka ∧ NormOf b kb ∧ X = sameK ka kb)
theorem below_back {B : Nat} {w a b : World} (ha : Below B w a) (hb : Below B w b) (hz : a.heap.size ≤ b.heap.size) : Below B a b :=
  ⟨hb.os.trans ha.os.symm, hb.tape.trans ha.tape.symm, hb.output.trans ha.output.symm, hz, fun q hq => (hb.block q hq).trans (ha.block q hq).symm⟩
theorem norm_yes {k : CfA} {w0 w : World} (h : k.ok w0) (hW : Below w0.heap.size w0 w) (hc : cfgC k = true) : Calls Tryz.prog 7 #[.agg (kCells k)] w (fun e w' => Below w.heap.size w w' ∧ ∃ k2 : CfA, e = .returned (.tuple #[.agg (kCells k2), .int .i64 0]) ∧ (∀ W, Keep w0.heap.size w w' W → k2.ok W) ∧ NormOf k k2) := by
  refine (cfgNormal_any k w w0.heap.size hW.size (fun W hw => h.call (hW.trans hw))).mono fun e w' ⟨hb, hh⟩ => ⟨hb, ?_⟩
  rcases hh with ⟨_, h⟩ | ⟨h, _⟩
  · exact h
  · rw [hc] at h
    cases h
theorem norm_no {k : CfA} {w0 w : World} (h : k.ok w0) (hW : Below w0.heap.size w0 w) (hc : cfgC k = false) : Calls Tryz.prog 7 #[.agg (kCells k)] w (fun e w' => Below w.heap.size w w' ∧ e = .returned (.tuple #[.agg zCfg, .int .i64 1])) := by
  refine (cfgNormal_any k w w0.heap.size hW.size (fun W hw => h.call (hW.trans hw))).mono fun e w' ⟨hb, hh⟩ => ⟨hb, ?_⟩
  rcases hh with ⟨h, _⟩ | ⟨_, h⟩
  · rw [hc] at h
    cases h
  · exact h
set_option maxHeartbeats 25600000 in
set_option maxRecDepth 100000 in
theorem cfgSame_any (a b : CfA) (w : World) (hka : a.ok w) (hkb : b.ok w) : Calls Tryz.prog 12 #[.agg (kCells a), .agg (kCells b)] w (SameP a b w) := by
  obtain ⟨Q, hQ⟩ : ∃ Q, Q = SameP a b w := ⟨_, rfl⟩
  have HQ := Lib.hid hQ
  rw [← hQ]
  have hb1 := (Below.refl w.heap.size w).alloc (Nat.le_refl _) (.cells (kCells a) 31)
  have hb2 := balR (o := .cells (kCells b) 31) hb1
  have hA := (Blk.new w 31 (kCells a)).alloc (.cells (kCells b) 31)
  have hZ := nbR w (.cells (kCells a) 31) (kCells b) 31
  have HY1 := Lib.hid (fun (hc : cfgC a = true) W (hW : Below w.heap.size w W) => norm_yes hka hW hc)
  have HY2 := Lib.hid (fun (hc : cfgC b = true) W (hW : Below w.heap.size w W) => norm_yes hkb hW hc)
  have HN1 := Lib.hid (fun (hc : cfgC a = false) W (hW : Below w.heap.size w W) => norm_no hka hW hc)
  have HN2 := Lib.hid (fun (hc : cfgC b = false) W (hW : Below w.heap.size w W) => norm_no hkb hW hc)
  have HB := Lib.hid hb2
  obtain ⟨A, hcA⟩ : ∃ B, cfgC a = B := ⟨_, rfl⟩
  obtain ⟨B, hcB⟩ : ∃ B, cfgC b = B := ⟨_, rfl⟩
  have HCA := Lib.hid hcA
  have HCB := Lib.hid hcB
  rw [hcA] at HY1 HN1
  rw [hcB] at HY2 HN2
  clear hb1 hb2 hka hkb hQ hcA hcB
  obtain ⟨ru1, ua1, uc1, ⟨n1, ma1, mc1, ba1, bc1, mu1, mv1, ka1, kc1⟩, re1, ra1, rc1, ih1, ia1, ic1, hr1, ha1, hc1⟩ := a
  obtain ⟨ru2, ua2, uc2, ⟨n2, ma2, mc2, ba2, bc2, mu2, mv2, ka2, kc2⟩, re2, ra2, rc2, ih2, ia2, ic2, hr2, ha2, hc2⟩ := b
  simp only [kCells] at HY1 HY2 HN1 HN2 hA hZ HB ⊢
  go_enter Tryz.func12, Tryz.ntmps12
  go_upto_region 1 with fail
  generalize (w.alloc (.cells #[.slice ua1 ru1.length uc1, .string n1.recv, .slice ma1 n1.ms.length mc1, .slice ba1 n1.bys.length bc1, .int .i64 n1.wait, .int .i64 n1.every, .int .i64 n1.rep, .slice mu1 n1.mute.length mv1, .bool n1.on, .slice ka1 n1.kids.length kc1, .slice ra1 re1.length rc1, .slice ia1 ih1.length ic1, .slice ha1 hr1.length hc1] 31)).alloc (.cells #[.slice ua2 ru2.length uc2, .string n2.recv, .slice ma2 n2.ms.length mc2, .slice ba2 n2.bys.length bc2, .int .i64 n2.wait, .int .i64 n2.every, .int .i64 n2.rep, .slice mu2 n2.mute.length mv2, .bool n2.on, .slice ka2 n2.kids.length kc2, .slice ra2 re2.length rc2, .slice ia2 ih2.length ic2, .slice ha2 hr2.length hc2] 31) = wx at *
  obtain ⟨g, hg⟩ : ∃ g, w.heap.size = g := ⟨_, rfl⟩
  have HG : Hid (w.heap.size ≤ g) := by show _ ≤ _; omega
  rw [hg] at hA hZ ⊢
  clear hg
  cases A
  case false =>
    have hAH := Lib.hid hA
    have hZH := Lib.hid hZ
    obtain ⟨c0, c1, c2, c3, c4, c5, c6, c7, c8, c9, c10, c11, c12⟩ := hA.cells13
    clear hA hZ
    go_upto_region 2 with (go_at_call 7; refine (HN1.out rfl _ HB.out).mono ?_; rintro e wn1 ⟨hbn, rfl⟩; obtain ⟨d0, d1, d2, d3, d4, d5, d6, d7, d8, d9, d10, d11, d12⟩ := (hAH.out.call hbn).cells13; have f0 := (hAH.out.call hbn).frozen 0; have f1 := (hAH.out.call hbn).frozen 1; have f2 := (hAH.out.call hbn).frozen 2; have f3 := (hAH.out.call hbn).frozen 3; have f4 := (hAH.out.call hbn).frozen 4; have f5 := (hAH.out.call hbn).frozen 5; have f6 := (hAH.out.call hbn).frozen 6; have f7 := (hAH.out.call hbn).frozen 7; have f8 := (hAH.out.call hbn).frozen 8; have f9 := (hAH.out.call hbn).frozen 9; have f10 := (hAH.out.call hbn).frozen 10; have f11 := (hAH.out.call hbn).frozen 11; have f12 := (hAH.out.call hbn).frozen 12)
    generalize hWF : (((((((((((((wn1.setCell ⟨g, 0, none⟩ (.slice none 0 0)).setCell ⟨g, 1, none⟩ (.string ⟨#[]⟩)).setCell ⟨g, 2, none⟩ (.slice none 0 0)).setCell ⟨g, 3, none⟩ (.slice none 0 0)).setCell ⟨g, 4, none⟩ (.int .i64 0)).setCell ⟨g, 5, none⟩ (.int .i64 0)).setCell ⟨g, 6, none⟩ (.int .i64 0)).setCell ⟨g, 7, none⟩ (.slice none 0 0)).setCell ⟨g, 8, none⟩ (.bool false)).setCell ⟨g, 9, none⟩ (.slice none 0 0)).setCell ⟨g, 10, none⟩ (.slice none 0 0)).setCell ⟨g, 11, none⟩ (.slice none 0 0)).setCell ⟨g, 12, none⟩ (.slice none 0 0)) = w3 at *
    obtain ⟨s1, s2, s3⟩ := st13 (hAH.out.call hbn) (.slice none 0 0) (.string ⟨#[]⟩) (.slice none 0 0) (.slice none 0 0) (.int .i64 0) (.int .i64 0) (.int .i64 0) (.slice none 0 0) (.bool false) (.slice none 0 0) (.slice none 0 0) (.slice none 0 0) (.slice none 0 0) w3 hWF.symm
    have HB2 := Lib.hid (s3 w.heap.size (by have := HG.out; omega) w (bthen HB.out hbn))
    have HS21 := Lib.hid s2
    have HZ31 := Lib.hid (s3 g (by omega) wn1 (Below.refl _ _)).size
    have HBN1 := Lib.hid hbn
    have hA := s1
    have hZ := (s2 (g + 1) (by omega)).trans (hZH.out.call hbn)
    have hZ : Blk w3 (g + 1) 31 #[.slice ua2 ru2.length uc2, .string n2.recv, .slice ma2 n2.ms.length mc2, .slice ba2 n2.bys.length bc2, .int .i64 n2.wait, .int .i64 n2.every, .int .i64 n2.rep, .slice mu2 n2.mute.length mv2, .bool n2.on, .slice ka2 n2.kids.length kc2, .slice ra2 re2.length rc2, .slice ia2 ih2.length ic2, .slice ha2 hr2.length hc2] := hZ
    clear hWF s1 s2 s3 hbn hAH hZH c0 d0 f0 c1 d1 f1 c2 d2 f2 c3 d3 f3 c4 d4 f4 c5 d5 f5 c6 d6 f6 c7 d7 f7 c8 d8 f8 c9 d9 f9 c10 d10 f10 c11 d11 f11 c12 d12 f12
    cases B
    case false =>
      have hZH := Lib.hid hZ
      have hAH := Lib.hid hA
      obtain ⟨c0, c1, c2, c3, c4, c5, c6, c7, c8, c9, c10, c11, c12⟩ := hZ.cells13
      clear hZ hA
      go_upto_region 3 with (go_at_call 7; refine (HN2.out rfl _ HB2.out).mono ?_; rintro e wn2 ⟨hbn, rfl⟩; obtain ⟨d0, d1, d2, d3, d4, d5, d6, d7, d8, d9, d10, d11, d12⟩ := (hZH.out.call hbn).cells13; have f0 := (hZH.out.call hbn).frozen 0; have f1 := (hZH.out.call hbn).frozen 1; have f2 := (hZH.out.call hbn).frozen 2; have f3 := (hZH.out.call hbn).frozen 3; have f4 := (hZH.out.call hbn).frozen 4; have f5 := (hZH.out.call hbn).frozen 5; have f6 := (hZH.out.call hbn).frozen 6; have f7 := (hZH.out.call hbn).frozen 7; have f8 := (hZH.out.call hbn).frozen 8; have f9 := (hZH.out.call hbn).frozen 9; have f10 := (hZH.out.call hbn).frozen 10; have f11 := (hZH.out.call hbn).frozen 11; have f12 := (hZH.out.call hbn).frozen 12)
      generalize hWF : (((((((((((((wn2.setCell ⟨g + 1, 0, none⟩ (.slice none 0 0)).setCell ⟨g + 1, 1, none⟩ (.string ⟨#[]⟩)).setCell ⟨g + 1, 2, none⟩ (.slice none 0 0)).setCell ⟨g + 1, 3, none⟩ (.slice none 0 0)).setCell ⟨g + 1, 4, none⟩ (.int .i64 0)).setCell ⟨g + 1, 5, none⟩ (.int .i64 0)).setCell ⟨g + 1, 6, none⟩ (.int .i64 0)).setCell ⟨g + 1, 7, none⟩ (.slice none 0 0)).setCell ⟨g + 1, 8, none⟩ (.bool false)).setCell ⟨g + 1, 9, none⟩ (.slice none 0 0)).setCell ⟨g + 1, 10, none⟩ (.slice none 0 0)).setCell ⟨g + 1, 11, none⟩ (.slice none 0 0)).setCell ⟨g + 1, 12, none⟩ (.slice none 0 0)) = w4 at *
      obtain ⟨s1, s2, s3⟩ := st13 (hZH.out.call hbn) (.slice none 0 0) (.string ⟨#[]⟩) (.slice none 0 0) (.slice none 0 0) (.int .i64 0) (.int .i64 0) (.int .i64 0) (.slice none 0 0) (.bool false) (.slice none 0 0) (.slice none 0 0) (.slice none 0 0) (.slice none 0 0) w4 hWF.symm
      have HB3 := Lib.hid (s3 w.heap.size (by have := HG.out; omega) w (bthen HB2.out hbn))
      have HS22 := Lib.hid s2
      have HZ32 := Lib.hid (s3 g (by omega) wn2 (Below.refl _ _)).size
      have HBN2 := Lib.hid hbn
      have hZ := s1
      have hA := (s2 g (by omega)).trans (hAH.out.call hbn)
      have hA : Blk w4 g 31 #[.slice none 0 0, .string ⟨#[]⟩, .slice none 0 0, .slice none 0 0, .int .i64 0, .int .i64 0, .int .i64 0, .slice none 0 0, .bool false, .slice none 0 0, .slice none 0 0, .slice none 0 0, .slice none 0 0] := hA
      clear hWF s1 s2 s3 c0 d0 f0 c1 d1 f1 c2 d2 f2 c3 d3 f3 c4 d4 f4 c5 d5 f5 c6 d6 f6 c7 d7 f7 c8 d8 f8 c9 d9 f9 c10 d10 f10 c11 d11 f11 c12 d12 f12
      go_wp2_with fail
      rw [HQ.out]
      exact ⟨HB3.out, false, rfl, .inl ⟨.inl HCA.out, rfl⟩⟩
    case true =>
      have hZH := Lib.hid hZ
      have hAH := Lib.hid hA
      obtain ⟨c0, c1, c2, c3, c4, c5, c6, c7, c8, c9, c10, c11, c12⟩ := hZ.cells13
      clear hZ hA
      go_upto_region 3 with (go_at_call 7; refine (HY2.out rfl _ HB2.out).mono ?_; rintro e wn2 ⟨hbn, ⟨ru4, ua4, uc4, ⟨n4, ma4, mc4, ba4, bc4, mu4, mv4, ka4, kc4⟩, re4, ra4, rc4, ih4, ia4, ic4, hr4, ha4, hc4⟩, rfl, hk4, hno4⟩; obtain ⟨d0, d1, d2, d3, d4, d5, d6, d7, d8, d9, d10, d11, d12⟩ := (hZH.out.call hbn).cells13; have f0 := (hZH.out.call hbn).frozen 0; have f1 := (hZH.out.call hbn).frozen 1; have f2 := (hZH.out.call hbn).frozen 2; have f3 := (hZH.out.call hbn).frozen 3; have f4 := (hZH.out.call hbn).frozen 4; have f5 := (hZH.out.call hbn).frozen 5; have f6 := (hZH.out.call hbn).frozen 6; have f7 := (hZH.out.call hbn).frozen 7; have f8 := (hZH.out.call hbn).frozen 8; have f9 := (hZH.out.call hbn).frozen 9; have f10 := (hZH.out.call hbn).frozen 10; have f11 := (hZH.out.call hbn).frozen 11; have f12 := (hZH.out.call hbn).frozen 12)
      generalize hWF : (((((((((((((wn2.setCell ⟨g + 1, 0, none⟩ (.slice ua4 ru4.length uc4)).setCell ⟨g + 1, 1, none⟩ (.string n4.recv)).setCell ⟨g + 1, 2, none⟩ (.slice ma4 n4.ms.length mc4)).setCell ⟨g + 1, 3, none⟩ (.slice ba4 n4.bys.length bc4)).setCell ⟨g + 1, 4, none⟩ (.int .i64 n4.wait)).setCell ⟨g + 1, 5, none⟩ (.int .i64 n4.every)).setCell ⟨g + 1, 6, none⟩ (.int .i64 n4.rep)).setCell ⟨g + 1, 7, none⟩ (.slice mu4 n4.mute.length mv4)).setCell ⟨g + 1, 8, none⟩ (.bool n4.on)).setCell ⟨g + 1, 9, none⟩ (.slice ka4 n4.kids.length kc4)).setCell ⟨g + 1, 10, none⟩ (.slice ra4 re4.length rc4)).setCell ⟨g + 1, 11, none⟩ (.slice ia4 ih4.length ic4)).setCell ⟨g + 1, 12, none⟩ (.slice ha4 hr4.length hc4)) = w4 at *
      obtain ⟨s1, s2, s3⟩ := st13 (hZH.out.call hbn) (.slice ua4 ru4.length uc4) (.string n4.recv) (.slice ma4 n4.ms.length mc4) (.slice ba4 n4.bys.length bc4) (.int .i64 n4.wait) (.int .i64 n4.every) (.int .i64 n4.rep) (.slice mu4 n4.mute.length mv4) (.bool n4.on) (.slice ka4 n4.kids.length kc4) (.slice ra4 re4.length rc4) (.slice ia4 ih4.length ic4) (.slice ha4 hr4.length hc4) w4 hWF.symm
      have HB3 := Lib.hid (s3 w.heap.size (by have := HG.out; omega) w (bthen HB2.out hbn))
      have HS22 := Lib.hid s2
      have HZ32 := Lib.hid (s3 g (by omega) wn2 (Below.refl _ _)).size
      have HBN2 := Lib.hid hbn
      have hZ := s1
      have hA := (s2 g (by omega)).trans (hAH.out.call hbn)
      have hA : Blk w4 g 31 #[.slice none 0 0, .string ⟨#[]⟩, .slice none 0 0, .slice none 0 0, .int .i64 0, .int .i64 0, .int .i64 0, .slice none 0 0, .bool false, .slice none 0 0, .slice none 0 0, .slice none 0 0, .slice none 0 0] := hA
      clear hWF s1 s2 s3 c0 d0 f0 c1 d1 f1 c2 d2 f2 c3 d3 f3 c4 d4 f4 c5 d5 f5 c6 d6 f6 c7 d7 f7 c8 d8 f8 c9 d9 f9 c10 d10 f10 c11 d11 f11 c12 d12 f12
      go_wp2_with fail
      rw [HQ.out]
      exact ⟨HB3.out, false, rfl, .inl ⟨.inl HCA.out, rfl⟩⟩
  case true =>
    have hAH := Lib.hid hA
    have hZH := Lib.hid hZ
    obtain ⟨c0, c1, c2, c3, c4, c5, c6, c7, c8, c9, c10, c11, c12⟩ := hA.cells13
    clear hA hZ
    go_upto_region 2 with (go_at_call 7; refine (HY1.out rfl _ HB.out).mono ?_; rintro e wn1 ⟨hbn, ⟨ru3, ua3, uc3, ⟨n3, ma3, mc3, ba3, bc3, mu3, mv3, ka3, kc3⟩, re3, ra3, rc3, ih3, ia3, ic3, hr3, ha3, hc3⟩, rfl, hk3, hno3⟩; obtain ⟨d0, d1, d2, d3, d4, d5, d6, d7, d8, d9, d10, d11, d12⟩ := (hAH.out.call hbn).cells13; have f0 := (hAH.out.call hbn).frozen 0; have f1 := (hAH.out.call hbn).frozen 1; have f2 := (hAH.out.call hbn).frozen 2; have f3 := (hAH.out.call hbn).frozen 3; have f4 := (hAH.out.call hbn).frozen 4; have f5 := (hAH.out.call hbn).frozen 5; have f6 := (hAH.out.call hbn).frozen 6; have f7 := (hAH.out.call hbn).frozen 7; have f8 := (hAH.out.call hbn).frozen 8; have f9 := (hAH.out.call hbn).frozen 9; have f10 := (hAH.out.call hbn).frozen 10; have f11 := (hAH.out.call hbn).frozen 11; have f12 := (hAH.out.call hbn).frozen 12)
    generalize hWF : (((((((((((((wn1.setCell ⟨g, 0, none⟩ (.slice ua3 ru3.length uc3)).setCell ⟨g, 1, none⟩ (.string n3.recv)).setCell ⟨g, 2, none⟩ (.slice ma3 n3.ms.length mc3)).setCell ⟨g, 3, none⟩ (.slice ba3 n3.bys.length bc3)).setCell ⟨g, 4, none⟩ (.int .i64 n3.wait)).setCell ⟨g, 5, none⟩ (.int .i64 n3.every)).setCell ⟨g, 6, none⟩ (.int .i64 n3.rep)).setCell ⟨g, 7, none⟩ (.slice mu3 n3.mute.length mv3)).setCell ⟨g, 8, none⟩ (.bool n3.on)).setCell ⟨g, 9, none⟩ (.slice ka3 n3.kids.length kc3)).setCell ⟨g, 10, none⟩ (.slice ra3 re3.length rc3)).setCell ⟨g, 11, none⟩ (.slice ia3 ih3.length ic3)).setCell ⟨g, 12, none⟩ (.slice ha3 hr3.length hc3)) = w3 at *
    obtain ⟨s1, s2, s3⟩ := st13 (hAH.out.call hbn) (.slice ua3 ru3.length uc3) (.string n3.recv) (.slice ma3 n3.ms.length mc3) (.slice ba3 n3.bys.length bc3) (.int .i64 n3.wait) (.int .i64 n3.every) (.int .i64 n3.rep) (.slice mu3 n3.mute.length mv3) (.bool n3.on) (.slice ka3 n3.kids.length kc3) (.slice ra3 re3.length rc3) (.slice ia3 ih3.length ic3) (.slice ha3 hr3.length hc3) w3 hWF.symm
    have HB2 := Lib.hid (s3 w.heap.size (by have := HG.out; omega) w (bthen HB.out hbn))
    have HS21 := Lib.hid s2
    have HZ31 := Lib.hid (s3 g (by omega) wn1 (Below.refl _ _)).size
    have HBN1 := Lib.hid hbn
    have hA := s1
    have hZ := (s2 (g + 1) (by omega)).trans (hZH.out.call hbn)
    have hZ : Blk w3 (g + 1) 31 #[.slice ua2 ru2.length uc2, .string n2.recv, .slice ma2 n2.ms.length mc2, .slice ba2 n2.bys.length bc2, .int .i64 n2.wait, .int .i64 n2.every, .int .i64 n2.rep, .slice mu2 n2.mute.length mv2, .bool n2.on, .slice ka2 n2.kids.length kc2, .slice ra2 re2.length rc2, .slice ia2 ih2.length ic2, .slice ha2 hr2.length hc2] := hZ
    have HK3 := Lib.hid hk3
    have HN3 := Lib.hid hno3
    have HGZ1 := Lib.hid (And.intro hAH.out.lt hZH.out.lt)
    clear hk3 hno3
    clear hWF s1 s2 s3 hbn hAH hZH c0 d0 f0 c1 d1 f1 c2 d2 f2 c3 d3 f3 c4 d4 f4 c5 d5 f5 c6 d6 f6 c7 d7 f7 c8 d8 f8 c9 d9 f9 c10 d10 f10 c11 d11 f11 c12 d12 f12
    cases B
    case false =>
      have hZH := Lib.hid hZ
      have hAH := Lib.hid hA
      obtain ⟨c0, c1, c2, c3, c4, c5, c6, c7, c8, c9, c10, c11, c12⟩ := hZ.cells13
      clear hZ hA
      go_upto_region 3 with (go_at_call 7; refine (HN2.out rfl _ HB2.out).mono ?_; rintro e wn2 ⟨hbn, rfl⟩; obtain ⟨d0, d1, d2, d3, d4, d5, d6, d7, d8, d9, d10, d11, d12⟩ := (hZH.out.call hbn).cells13; have f0 := (hZH.out.call hbn).frozen 0; have f1 := (hZH.out.call hbn).frozen 1; have f2 := (hZH.out.call hbn).frozen 2; have f3 := (hZH.out.call hbn).frozen 3; have f4 := (hZH.out.call hbn).frozen 4; have f5 := (hZH.out.call hbn).frozen 5; have f6 := (hZH.out.call hbn).frozen 6; have f7 := (hZH.out.call hbn).frozen 7; have f8 := (hZH.out.call hbn).frozen 8; have f9 := (hZH.out.call hbn).frozen 9; have f10 := (hZH.out.call hbn).frozen 10; have f11 := (hZH.out.call hbn).frozen 11; have f12 := (hZH.out.call hbn).frozen 12)
      generalize hWF : (((((((((((((wn2.setCell ⟨g + 1, 0, none⟩ (.slice none 0 0)).setCell ⟨g + 1, 1, none⟩ (.string ⟨#[]⟩)).setCell ⟨g + 1, 2, none⟩ (.slice none 0 0)).setCell ⟨g + 1, 3, none⟩ (.slice none 0 0)).setCell ⟨g + 1, 4, none⟩ (.int .i64 0)).setCell ⟨g + 1, 5, none⟩ (.int .i64 0)).setCell ⟨g + 1, 6, none⟩ (.int .i64 0)).setCell ⟨g + 1, 7, none⟩ (.slice none 0 0)).setCell ⟨g + 1, 8, none⟩ (.bool false)).setCell ⟨g + 1, 9, none⟩ (.slice none 0 0)).setCell ⟨g + 1, 10, none⟩ (.slice none 0 0)).setCell ⟨g + 1, 11, none⟩ (.slice none 0 0)).setCell ⟨g + 1, 12, none⟩ (.slice none 0 0)) = w4 at *
      obtain ⟨s1, s2, s3⟩ := st13 (hZH.out.call hbn) (.slice none 0 0) (.string ⟨#[]⟩) (.slice none 0 0) (.slice none 0 0) (.int .i64 0) (.int .i64 0) (.int .i64 0) (.slice none 0 0) (.bool false) (.slice none 0 0) (.slice none 0 0) (.slice none 0 0) (.slice none 0 0) w4 hWF.symm
      have HB3 := Lib.hid (s3 w.heap.size (by have := HG.out; omega) w (bthen HB2.out hbn))
      have HS22 := Lib.hid s2
      have HZ32 := Lib.hid (s3 g (by omega) wn2 (Below.refl _ _)).size
      have HBN2 := Lib.hid hbn
      have hZ := s1
      have hA := (s2 g (by omega)).trans (hAH.out.call hbn)
      have hA : Blk w4 g 31 #[.slice ua3 ru3.length uc3, .string n3.recv, .slice ma3 n3.ms.length mc3, .slice ba3 n3.bys.length bc3, .int .i64 n3.wait, .int .i64 n3.every, .int .i64 n3.rep, .slice mu3 n3.mute.length mv3, .bool n3.on, .slice ka3 n3.kids.length kc3, .slice ra3 re3.length rc3, .slice ia3 ih3.length ic3, .slice ha3 hr3.length hc3] := hA
      clear hWF s1 s2 s3 c0 d0 f0 c1 d1 f1 c2 d2 f2 c3 d3 f3 c4 d4 f4 c5 d5 f5 c6 d6 f6 c7 d7 f7 c8 d8 f8 c9 d9 f9 c10 d10 f10 c11 d11 f11 c12 d12 f12
      go_wp2_with fail
      rw [HQ.out]
      exact ⟨HB3.out, false, rfl, .inl ⟨.inr HCB.out, rfl⟩⟩
    case true =>
      have hZH := Lib.hid hZ
      have hAH := Lib.hid hA
      obtain ⟨c0, c1, c2, c3, c4, c5, c6, c7, c8, c9, c10, c11, c12⟩ := hZ.cells13
      clear hZ hA
      go_upto_region 3 with (go_at_call 7; refine (HY2.out rfl _ HB2.out).mono ?_; rintro e wn2 ⟨hbn, ⟨ru4, ua4, uc4, ⟨n4, ma4, mc4, ba4, bc4, mu4, mv4, ka4, kc4⟩, re4, ra4, rc4, ih4, ia4, ic4, hr4, ha4, hc4⟩, rfl, hk4, hno4⟩; obtain ⟨d0, d1, d2, d3, d4, d5, d6, d7, d8, d9, d10, d11, d12⟩ := (hZH.out.call hbn).cells13; have f0 := (hZH.out.call hbn).frozen 0; have f1 := (hZH.out.call hbn).frozen 1; have f2 := (hZH.out.call hbn).frozen 2; have f3 := (hZH.out.call hbn).frozen 3; have f4 := (hZH.out.call hbn).frozen 4; have f5 := (hZH.out.call hbn).frozen 5; have f6 := (hZH.out.call hbn).frozen 6; have f7 := (hZH.out.call hbn).frozen 7; have f8 := (hZH.out.call hbn).frozen 8; have f9 := (hZH.out.call hbn).frozen 9; have f10 := (hZH.out.call hbn).frozen 10; have f11 := (hZH.out.call hbn).frozen 11; have f12 := (hZH.out.call hbn).frozen 12)
      generalize hWF : (((((((((((((wn2.setCell ⟨g + 1, 0, none⟩ (.slice ua4 ru4.length uc4)).setCell ⟨g + 1, 1, none⟩ (.string n4.recv)).setCell ⟨g + 1, 2, none⟩ (.slice ma4 n4.ms.length mc4)).setCell ⟨g + 1, 3, none⟩ (.slice ba4 n4.bys.length bc4)).setCell ⟨g + 1, 4, none⟩ (.int .i64 n4.wait)).setCell ⟨g + 1, 5, none⟩ (.int .i64 n4.every)).setCell ⟨g + 1, 6, none⟩ (.int .i64 n4.rep)).setCell ⟨g + 1, 7, none⟩ (.slice mu4 n4.mute.length mv4)).setCell ⟨g + 1, 8, none⟩ (.bool n4.on)).setCell ⟨g + 1, 9, none⟩ (.slice ka4 n4.kids.length kc4)).setCell ⟨g + 1, 10, none⟩ (.slice ra4 re4.length rc4)).setCell ⟨g + 1, 11, none⟩ (.slice ia4 ih4.length ic4)).setCell ⟨g + 1, 12, none⟩ (.slice ha4 hr4.length hc4)) = w4 at *
      obtain ⟨s1, s2, s3⟩ := st13 (hZH.out.call hbn) (.slice ua4 ru4.length uc4) (.string n4.recv) (.slice ma4 n4.ms.length mc4) (.slice ba4 n4.bys.length bc4) (.int .i64 n4.wait) (.int .i64 n4.every) (.int .i64 n4.rep) (.slice mu4 n4.mute.length mv4) (.bool n4.on) (.slice ka4 n4.kids.length kc4) (.slice ra4 re4.length rc4) (.slice ia4 ih4.length ic4) (.slice ha4 hr4.length hc4) w4 hWF.symm
      have HB3 := Lib.hid (s3 w.heap.size (by have := HG.out; omega) w (bthen HB2.out hbn))
      have HS22 := Lib.hid s2
      have HZ32 := Lib.hid (s3 g (by omega) wn2 (Below.refl _ _)).size
      have HBN2 := Lib.hid hbn
      have hZ := s1
      have hA := (s2 g (by omega)).trans (hAH.out.call hbn)
      have hA : Blk w4 g 31 #[.slice ua3 ru3.length uc3, .string n3.recv, .slice ma3 n3.ms.length mc3, .slice ba3 n3.bys.length bc3, .int .i64 n3.wait, .int .i64 n3.every, .int .i64 n3.rep, .slice mu3 n3.mute.length mv3, .bool n3.on, .slice ka3 n3.kids.length kc3, .slice ra3 re3.length rc3, .slice ia3 ih3.length ic3, .slice ha3 hr3.length hc3] := hA
      clear hWF s1 s2 s3 c0 d0 f0 c1 d1 f1 c2 d2 f2 c3 d3 f3 c4 d4 f4 c5 d5 f5 c6 d6 f6 c7 d7 f7 c8 d8 f8 c9 d9 f9 c10 d10 f10 c11 d11 f11 c12 d12 f12
      have HK4 := Lib.hid hk4
      have HN4 := Lib.hid hno4
      have HGZ2 := Lib.hid (And.intro hAH.out.lt hZH.out.lt)
      clear hk4 hno4 hbn
      have HO3 : Hid (∀ W, Below w4.heap.size w4 W → (⟨ru3, ua3, uc3, ⟨n3, ma3, mc3, ba3, bc3, mu3, mv3, ka3, kc3⟩, re3, ra3, rc3, ih3, ia3, ic3, hr3, ha3, hc3⟩ : CfA).ok W) := fun W hW => HK3.out W ⟨below_back HB.out (HB3.out.trans (hW.mono HB3.out.size)) (by have := HBN1.out.size; have := HZ31.out; have := HBN2.out.size; have := HZ32.out; have := hW.size; omega), (by have := HZ31.out; have := HBN2.out.size; have := HZ32.out; have := hW.size; omega), fun q h1 h2 => by
        have h3 := HGZ1.out
        have h4 := HZ31.out
        have h5 := HBN2.out.size
        have h6 := HZ32.out
        rw [hW.block q (by omega), HS22.out q (by omega), HBN2.out.block q (by omega), HS21.out q (by omega)]⟩
      have HO4 : Hid (∀ W, Below w4.heap.size w4 W → (⟨ru4, ua4, uc4, ⟨n4, ma4, mc4, ba4, bc4, mu4, mv4, ka4, kc4⟩, re4, ra4, rc4, ih4, ia4, ic4, hr4, ha4, hc4⟩ : CfA).ok W) := fun W hW => HK4.out W ⟨below_back HB2.out (HB3.out.trans (hW.mono HB3.out.size)) (by have := HBN2.out.size; have := HZ32.out; have := hW.size; omega), (by have := HZ32.out; have := hW.size; omega), fun q h1 h2 => by
        have h3 := HGZ2.out
        have h6 := HZ32.out
        rw [hW.block q (by omega), HS22.out q (by omega)]⟩
      obtain ⟨X1, hX1⟩ : ∃ X, eqB (ru3.map RuA.r = ru4.map RuA.r) = X := ⟨_, rfl⟩
      obtain ⟨X2, hX2⟩ : ∃ X, eqB (n3 = n4) = X := ⟨_, rfl⟩
      obtain ⟨X3, hX3⟩ : ∃ X, decide (re3 = re4) = X := ⟨_, rfl⟩
      obtain ⟨X4, hX4⟩ : ∃ X, eqB (ih3.map InA.val = ih4.map InA.val) = X := ⟨_, rfl⟩
      obtain ⟨X5, hX5⟩ : ∃ X, eqB (hr3 = hr4) = X := ⟨_, rfl⟩
      have H1 := fun W (hW : Below w4.heap.size w4 W) => eqRowR_any ua3 ua4 uc3 uc4 ru3 ru4 W (HO3.out W hW).1 (HO4.out W hW).1
      have H2 := fun W (hW : Below w4.heap.size w4 W) => routesLike_any ⟨n3, ma3, mc3, ba3, bc3, mu3, mv3, ka3, kc3⟩ ⟨n4, ma4, mc4, ba4, bc4, mu4, mv4, ka4, kc4⟩ W (HO3.out W hW).2.1 (HO4.out W hW).2.1
      have H3 := fun W (hW : Below w4.heap.size w4 W) => equalD_any ra3 ra4 rc3 rc4 re3 re4 W (HO3.out W hW).2.2.1 (HO4.out W hW).2.2.1
      have H4 := fun W (hW : Below w4.heap.size w4 W) => eqRowI_any ia3 ia4 ic3 ic4 ih3 ih4 W (HO3.out W hW).2.2.2.1 (HO4.out W hW).2.2.2.1
      have H5 := fun W (hW : Below w4.heap.size w4 W) => eqRowH_any ha3 ha4 hc3 hc4 hr3 hr4 W (HO3.out W hW).2.2.2.2 (HO4.out W hW).2.2.2.2
      simp only [tCells] at H2
      rw [hX1] at H1
      rw [hX2] at H2
      rw [hX3] at H3
      rw [hX4] at H4
      rw [hX5] at H5
      have HRES : Hid (sameK ⟨ru3, ua3, uc3, ⟨n3, ma3, mc3, ba3, bc3, mu3, mv3, ka3, kc3⟩, re3, ra3, rc3, ih3, ia3, ic3, hr3, ha3, hc3⟩ ⟨ru4, ua4, uc4, ⟨n4, ma4, mc4, ba4, bc4, mu4, mv4, ka4, kc4⟩, re4, ra4, rc4, ih4, ia4, ic4, hr4, ha4, hc4⟩ = (X1 && (X2 && (X3 && (X4 && X5))))) := by
        show sameK _ _ = _
        simp only [sameK]
        rw [hX1, hX2, hX3, hX4, hX5]
      have H1 := Lib.hid H1
      have H2 := Lib.hid H2
      have H3 := Lib.hid H3
      have H4 := Lib.hid H4
      have H5 := Lib.hid H5
      have HA5 := Lib.hid (fun W (hW : Below w4.heap.size w4 W) => (hA.call hW).cells13)
      have HZ5 := Lib.hid (fun W (hW : Below w4.heap.size w4 W) => (hZ.call hW).cells13)
      obtain ⟨c0, c1, c2, c3, c4, c5, c6, c7, c8, c9, c10, c11, c12⟩ := hA.cells13
      obtain ⟨d0, d1, d2, d3, d4, d5, d6, d7, d8, d9, d10, d11, d12⟩ := hZ.cells13
      have hb0 : Below w4.heap.size w4 w4 := Below.refl _ _
      clear hA hZ hX1 hX2 hX3 hX4 hX5
      cases X1
      case false =>
        go_wp2_with (first | (go_at_call 49; (with_reducible refine (H1.out _ hb0).mono ?_); rintro e v1 ⟨rfl, hc1⟩; have hb1 := bthen hb0 hc1; obtain ⟨p1_0, p1_1, p1_2, p1_3, p1_4, p1_5, p1_6, p1_7, p1_8, p1_9, p1_10, p1_11, p1_12⟩ := HA5.out _ hb1; obtain ⟨q1_0, q1_1, q1_2, q1_3, q1_4, q1_5, q1_6, q1_7, q1_8, q1_9, q1_10, q1_11, q1_12⟩ := HZ5.out _ hb1))
        rw [HQ.out]
        exact ⟨HB3.out.trans (hb1.mono HB3.out.size), false, rfl, .inr ⟨HCA.out, HCB.out, _, _, HN3.out, HN4.out, HRES.out.symm⟩⟩
      cases X2
      case false =>
        go_wp2_with (first | (go_at_call 49; (with_reducible refine (H1.out _ hb0).mono ?_); rintro e v1 ⟨rfl, hc1⟩; have hb1 := bthen hb0 hc1; obtain ⟨p1_0, p1_1, p1_2, p1_3, p1_4, p1_5, p1_6, p1_7, p1_8, p1_9, p1_10, p1_11, p1_12⟩ := HA5.out _ hb1; obtain ⟨q1_0, q1_1, q1_2, q1_3, q1_4, q1_5, q1_6, q1_7, q1_8, q1_9, q1_10, q1_11, q1_12⟩ := HZ5.out _ hb1) | (go_at_call 51; (with_reducible refine (H2.out _ hb1).mono ?_); rintro e v2 ⟨rfl, hc2⟩; have hb2 := bthen hb1 hc2; obtain ⟨p2_0, p2_1, p2_2, p2_3, p2_4, p2_5, p2_6, p2_7, p2_8, p2_9, p2_10, p2_11, p2_12⟩ := HA5.out _ hb2; obtain ⟨q2_0, q2_1, q2_2, q2_3, q2_4, q2_5, q2_6, q2_7, q2_8, q2_9, q2_10, q2_11, q2_12⟩ := HZ5.out _ hb2))
        rw [HQ.out]
        exact ⟨HB3.out.trans (hb2.mono HB3.out.size), false, rfl, .inr ⟨HCA.out, HCB.out, _, _, HN3.out, HN4.out, HRES.out.symm⟩⟩
      cases X3
      case false =>
        go_wp2_with (first | (go_at_call 49; (with_reducible refine (H1.out _ hb0).mono ?_); rintro e v1 ⟨rfl, hc1⟩; have hb1 := bthen hb0 hc1; obtain ⟨p1_0, p1_1, p1_2, p1_3, p1_4, p1_5, p1_6, p1_7, p1_8, p1_9, p1_10, p1_11, p1_12⟩ := HA5.out _ hb1; obtain ⟨q1_0, q1_1, q1_2, q1_3, q1_4, q1_5, q1_6, q1_7, q1_8, q1_9, q1_10, q1_11, q1_12⟩ := HZ5.out _ hb1) | (go_at_call 51; (with_reducible refine (H2.out _ hb1).mono ?_); rintro e v2 ⟨rfl, hc2⟩; have hb2 := bthen hb1 hc2; obtain ⟨p2_0, p2_1, p2_2, p2_3, p2_4, p2_5, p2_6, p2_7, p2_8, p2_9, p2_10, p2_11, p2_12⟩ := HA5.out _ hb2; obtain ⟨q2_0, q2_1, q2_2, q2_3, q2_4, q2_5, q2_6, q2_7, q2_8, q2_9, q2_10, q2_11, q2_12⟩ := HZ5.out _ hb2) | (go_at_call 52; (with_reducible refine (H3.out _ hb2).mono ?_); rintro e v3 ⟨rfl, hc3⟩; have hb3 := bthen hb2 hc3; obtain ⟨p3_0, p3_1, p3_2, p3_3, p3_4, p3_5, p3_6, p3_7, p3_8, p3_9, p3_10, p3_11, p3_12⟩ := HA5.out _ hb3; obtain ⟨q3_0, q3_1, q3_2, q3_3, q3_4, q3_5, q3_6, q3_7, q3_8, q3_9, q3_10, q3_11, q3_12⟩ := HZ5.out _ hb3))
        rw [HQ.out]
        exact ⟨HB3.out.trans (hb3.mono HB3.out.size), false, rfl, .inr ⟨HCA.out, HCB.out, _, _, HN3.out, HN4.out, HRES.out.symm⟩⟩
      cases X4
      case false =>
        go_wp2_with (first | (go_at_call 49; (with_reducible refine (H1.out _ hb0).mono ?_); rintro e v1 ⟨rfl, hc1⟩; have hb1 := bthen hb0 hc1; obtain ⟨p1_0, p1_1, p1_2, p1_3, p1_4, p1_5, p1_6, p1_7, p1_8, p1_9, p1_10, p1_11, p1_12⟩ := HA5.out _ hb1; obtain ⟨q1_0, q1_1, q1_2, q1_3, q1_4, q1_5, q1_6, q1_7, q1_8, q1_9, q1_10, q1_11, q1_12⟩ := HZ5.out _ hb1) | (go_at_call 51; (with_reducible refine (H2.out _ hb1).mono ?_); rintro e v2 ⟨rfl, hc2⟩; have hb2 := bthen hb1 hc2; obtain ⟨p2_0, p2_1, p2_2, p2_3, p2_4, p2_5, p2_6, p2_7, p2_8, p2_9, p2_10, p2_11, p2_12⟩ := HA5.out _ hb2; obtain ⟨q2_0, q2_1, q2_2, q2_3, q2_4, q2_5, q2_6, q2_7, q2_8, q2_9, q2_10, q2_11, q2_12⟩ := HZ5.out _ hb2) | (go_at_call 52; (with_reducible refine (H3.out _ hb2).mono ?_); rintro e v3 ⟨rfl, hc3⟩; have hb3 := bthen hb2 hc3; obtain ⟨p3_0, p3_1, p3_2, p3_3, p3_4, p3_5, p3_6, p3_7, p3_8, p3_9, p3_10, p3_11, p3_12⟩ := HA5.out _ hb3; obtain ⟨q3_0, q3_1, q3_2, q3_3, q3_4, q3_5, q3_6, q3_7, q3_8, q3_9, q3_10, q3_11, q3_12⟩ := HZ5.out _ hb3) | (go_at_call 53; (with_reducible refine (H4.out _ hb3).mono ?_); rintro e v4 ⟨rfl, hc4⟩; have hb4 := bthen hb3 hc4; obtain ⟨p4_0, p4_1, p4_2, p4_3, p4_4, p4_5, p4_6, p4_7, p4_8, p4_9, p4_10, p4_11, p4_12⟩ := HA5.out _ hb4; obtain ⟨q4_0, q4_1, q4_2, q4_3, q4_4, q4_5, q4_6, q4_7, q4_8, q4_9, q4_10, q4_11, q4_12⟩ := HZ5.out _ hb4))
        rw [HQ.out]
        exact ⟨HB3.out.trans (hb4.mono HB3.out.size), false, rfl, .inr ⟨HCA.out, HCB.out, _, _, HN3.out, HN4.out, HRES.out.symm⟩⟩
      go_wp2_with (first | (go_at_call 49; (with_reducible refine (H1.out _ hb0).mono ?_); rintro e v1 ⟨rfl, hc1⟩; have hb1 := bthen hb0 hc1; obtain ⟨p1_0, p1_1, p1_2, p1_3, p1_4, p1_5, p1_6, p1_7, p1_8, p1_9, p1_10, p1_11, p1_12⟩ := HA5.out _ hb1; obtain ⟨q1_0, q1_1, q1_2, q1_3, q1_4, q1_5, q1_6, q1_7, q1_8, q1_9, q1_10, q1_11, q1_12⟩ := HZ5.out _ hb1) | (go_at_call 51; (with_reducible refine (H2.out _ hb1).mono ?_); rintro e v2 ⟨rfl, hc2⟩; have hb2 := bthen hb1 hc2; obtain ⟨p2_0, p2_1, p2_2, p2_3, p2_4, p2_5, p2_6, p2_7, p2_8, p2_9, p2_10, p2_11, p2_12⟩ := HA5.out _ hb2; obtain ⟨q2_0, q2_1, q2_2, q2_3, q2_4, q2_5, q2_6, q2_7, q2_8, q2_9, q2_10, q2_11, q2_12⟩ := HZ5.out _ hb2) | (go_at_call 52; (with_reducible refine (H3.out _ hb2).mono ?_); rintro e v3 ⟨rfl, hc3⟩; have hb3 := bthen hb2 hc3; obtain ⟨p3_0, p3_1, p3_2, p3_3, p3_4, p3_5, p3_6, p3_7, p3_8, p3_9, p3_10, p3_11, p3_12⟩ := HA5.out _ hb3; obtain ⟨q3_0, q3_1, q3_2, q3_3, q3_4, q3_5, q3_6, q3_7, q3_8, q3_9, q3_10, q3_11, q3_12⟩ := HZ5.out _ hb3) | (go_at_call 53; (with_reducible refine (H4.out _ hb3).mono ?_); rintro e v4 ⟨rfl, hc4⟩; have hb4 := bthen hb3 hc4; obtain ⟨p4_0, p4_1, p4_2, p4_3, p4_4, p4_5, p4_6, p4_7, p4_8, p4_9, p4_10, p4_11, p4_12⟩ := HA5.out _ hb4; obtain ⟨q4_0, q4_1, q4_2, q4_3, q4_4, q4_5, q4_6, q4_7, q4_8, q4_9, q4_10, q4_11, q4_12⟩ := HZ5.out _ hb4) | (go_at_call 54; (with_reducible refine (H5.out _ hb4).mono ?_); rintro e v5 ⟨rfl, hc5⟩; have hb5 := bthen hb4 hc5; obtain ⟨p5_0, p5_1, p5_2, p5_3, p5_4, p5_5, p5_6, p5_7, p5_8, p5_9, p5_10, p5_11, p5_12⟩ := HA5.out _ hb5; obtain ⟨q5_0, q5_1, q5_2, q5_3, q5_4, q5_5, q5_6, q5_7, q5_8, q5_9, q5_10, q5_11, q5_12⟩ := HZ5.out _ hb5))
      rw [HQ.out]
      exact ⟨HB3.out.trans (hb5.mono HB3.out.size), X5, rfl, .inr ⟨HCA.out, HCB.out, _, _, HN3.out, HN4.out, HRES.out.symm⟩⟩
end Go.Proofs.YtmhekhilgllciaaGreat
/- The mathematics of normal forms: the program's and the document's; of one configuration, and of its parts in another order. -/
namespace Go.Proofs.YtmhekhilgllciaaGreat
open Go.RowKit Go.Lib Go.Sort

/-- one inhibit's text is less than another's -/
def ltI (x y : InA) : Bool := lessB (inhT x).data.toList (inhT y).data.toList
theorem leB_lt {a b : Bs} (h : leB a b = true) (hne : a ≠ b) : lessB a b = true := by
  simp only [leB, Bool.not_eq_true'] at h
  cases h2 : lessB a b with
  | true => rfl
  | false => exact absurd (lessB_tri _ _ h2 h) hne
theorem compG_strict : ∀ (l : List InA) (p : InA), InA.good p = true → (∀ z ∈ l, InA.good z = true) → (p :: l).Pairwise (fun a b => leB (inhT a).data.toList (inhT b).data.toList = true) →
    (compG p l).Pairwise (fun a b => ltI a b = true) ∧ (∀ z ∈ compG p l, ltI p z = true) ∧ (∀ x ∈ l, inhT x = inhT p ∨ ∃ y, y ∈ compG p l ∧ inhT y = inhT x)
  | [], p, _, _, _ => by simp [compG]
  | y :: l, p, gp, gl, hp => by
    rw [List.pairwise_cons] at hp
    have gy := gl y List.mem_cons_self
    obtain ⟨i1, i2, i3⟩ := compG_strict l y gy (fun z hz => gl z (List.mem_cons_of_mem _ hz)) hp.2
    have hpy := hp.1 y List.mem_cons_self
    by_cases hl : inhT y = inhT p
    · have e : compG p (y :: l) = compG y l := by
        unfold compG
        rw [like_text gy gp, decide_eq_true hl, if_pos rfl]
        cases l <;> rfl
      rw [e]
      refine ⟨i1, fun z hz => ?_, fun x hx => ?_⟩
      · have := i2 z hz
        unfold ltI at this ⊢
        rw [← hl]; exact this
      · rcases List.mem_cons.1 hx with rfl | hx
        · exact .inl hl
        · rcases i3 x hx with h | h
          · exact .inl (h.trans hl)
          · exact .inr h
    · have e : compG p (y :: l) = y :: compG y l := by
        unfold compG
        rw [like_text gy gp, decide_eq_false hl, if_neg (by decide)]
        cases l <;> rfl
      have hlt : ltI p y = true := leB_lt hpy (fun e => hl (bytes_of e.symm))
      rw [e, List.pairwise_cons]
      refine ⟨⟨i2, i1⟩, fun z hz => ?_, fun x hx => ?_⟩
      · rcases List.mem_cons.1 hz with rfl | hz
        · exact hlt
        · exact lessB_trans _ _ _ hlt (i2 z hz)
      · rcases List.mem_cons.1 hx with rfl | hx
        · exact .inr ⟨x, List.mem_cons_self, rfl⟩
        · rcases i3 x hx with h | ⟨z, hz, h⟩
          · exact .inr ⟨y, List.mem_cons_self, h.symm⟩
          · exact .inr ⟨z, List.mem_cons_of_mem _ hz, h⟩
theorem compI_strict {l : List InA} (gl : ∀ z ∈ l, InA.good z = true) (hp : l.Pairwise (fun a b => leB (inhT a).data.toList (inhT b).data.toList = true)) :
    (compI l).Pairwise (fun a b => ltI a b = true) ∧ (∀ x ∈ l, ∃ y, y ∈ compI l ∧ inhT y = inhT x) := by
  cases l with
  | nil => simp [compI]
  | cons p l =>
    obtain ⟨i1, i2, i3⟩ := compG_strict l p (gl p List.mem_cons_self) (fun z hz => gl z (List.mem_cons_of_mem _ hz)) hp
    have e : compI (p :: l) = p :: compG p l := rfl
    rw [e, List.pairwise_cons]
    refine ⟨⟨i2, i1⟩, fun x hx => ?_⟩
    rcases List.mem_cons.1 hx with rfl | hx
    · exact ⟨x, List.mem_cons_self, rfl⟩
    · rcases i3 x hx with h | ⟨y, hy, h⟩
      · exact ⟨p, List.mem_cons_self, h.symm⟩
      · exact ⟨y, List.mem_cons_of_mem _ hy, h⟩
/-- inhibits of the same texts, each above the one ahead, have the same texts in that order -/
theorem strict_uniq {xs ys : List InA} (hx : xs.Pairwise (fun a b => ltI a b = true)) (hy : ys.Pairwise (fun a b => ltI a b = true)) (h1 : ∀ x ∈ xs, ∃ y, y ∈ ys ∧ inhT y = inhT x) (h2 : ∀ y ∈ ys, ∃ x, x ∈ xs ∧ inhT x = inhT y) : xs.map inhT = ys.map inhT := by
  have hnd : ∀ {zs : List InA}, zs.Pairwise (fun a b => ltI a b = true) → (zs.map inhT).Nodup := fun {zs} hz => by
    unfold List.Nodup
    rw [List.pairwise_map]
    refine hz.imp fun {a b} hab e => ?_
    unfold ltI at hab
    rw [e, lessB_irrefl] at hab
    cases hab
  have hperm : (xs.map inhT).Perm (ys.map inhT) := by
    refine (List.perm_ext_iff_of_nodup (hnd hx) (hnd hy)).2 fun t => ?_
    constructor
    · intro ht
      obtain ⟨x, hx, rfl⟩ := List.mem_map.1 ht
      obtain ⟨y, hy, e⟩ := h1 x hx
      exact List.mem_map.2 ⟨y, hy, e⟩
    · intro ht
      obtain ⟨y, hy, rfl⟩ := List.mem_map.1 ht
      obtain ⟨x, hx, e⟩ := h2 y hy
      exact List.mem_map.2 ⟨x, hx, e⟩
  refine List.Perm.eq_of_pairwise (le := fun a b : ByteArray => lessB a.data.toList b.data.toList = true) (fun a b _ _ h h' => ?_) (List.pairwise_map.2 (hx.imp fun h => h)) (List.pairwise_map.2 (hy.imp fun h => h)) hperm
  rw [lessB_asymm h] at h'
  cases h'
/-- two configurations are the same, part by part -/
def SameTx (n d : CfA) : Prop := n.rt.n = d.rt.n ∧ n.ru = d.ru ∧ n.re = d.re ∧ n.hr = d.hr ∧ n.ih.map inhT = d.ih.map inhT
/-- d is the normal form that the document makes of k -/
def NormDoc (k d : CfA) : Prop := d.rt = k.rt ∧ SortedN RuA.name k.ru d.ru ∧ d.re = sortS k.re ∧ SortedN HrA.n k.hr d.hr ∧ d.ih.Pairwise (fun a b => ltI a b = true) ∧ (∀ x ∈ d.ih, x ∈ k.ih) ∧ (∀ x ∈ k.ih, ∃ y, y ∈ d.ih ∧ inhT y = inhT x)
theorem cfgC_good {k : CfA} (hc : cfgC k = true) : (∀ z ∈ k.ru, RuA.good z = true) ∧ (k.ru.map RuA.name).Nodup ∧ k.re.Nodup ∧ (∀ z ∈ k.ih, InA.good z = true) ∧ (∀ z ∈ k.hr, HrA.good z = true) ∧ (k.hr.map HrA.n).Nodup ∧ k.ih.length ≤ 8 := by
  simp only [cfgC, Bool.and_eq_true, decide_eq_true_eq, List.all_eq_true] at hc
  obtain ⟨⟨_, a⟩, b, _, c, ⟨l, d⟩, ⟨_, e⟩, f, _⟩ := hc
  exact ⟨a, (onceT_iff _).1 b, (onceT_iff _).1 c, d, e, (onceT_iff _).1 f, l⟩
theorem normOf_strict {k n : CfA} (hc : cfgC k = true) (hn : NormOf k n) : n.ih.Pairwise (fun a b => ltI a b = true) ∧ (∀ x ∈ n.ih, x ∈ k.ih) ∧ (∀ x ∈ k.ih, ∃ y, y ∈ n.ih ∧ inhT y = inhT x) := by
  obtain ⟨_, _, _, ⟨ys, a4, a5⟩, _⟩ := hn
  have gi := (cfgC_good hc).2.2.2.1
  obtain ⟨s1, s2⟩ := compI_strict (l := ys) (fun z hz => gi z (a4.1.mem_iff.1 hz)) a4.2
  rw [a5]
  exact ⟨s1, fun x hx => a4.1.mem_iff.1 (compI_mem hx), fun x hx => s2 x (a4.1.mem_iff.2 hx)⟩
theorem sortS_perm (ss : List ByteArray) : (sortS ss).Perm ss := by
  unfold sortS
  have e : (bsOf ss).map strB = ss := by
    unfold bsOf
    rw [List.map_map]
    have : (strB ∘ fun s : ByteArray => s.data.toList) = id := by funext s; simp [strB_of]
    rw [this, List.map_id]
  have h := (srtB_perm (bsOf ss)).map strB
  rw [e] at h
  exact h
theorem sortS_sorted (ss : List ByteArray) : (sortS ss).Pairwise (fun a b => leB a.data.toList b.data.toList = true) := by
  have := srtB_sorted (bsOf ss)
  rw [← sortS_bs, List.pairwise_map] at this
  exact this
theorem sortS_sortedN (ss : List ByteArray) : SortedN id ss (sortS ss) := ⟨sortS_perm ss, sortS_sorted ss⟩
/-- one of texts sorted that are another's, in another order -/
theorem sortS_eq {xs ys : List ByteArray} (h : ys.Perm xs) : sortS ys = sortS xs :=
  List.Perm.eq_of_pairwise (le := fun a b => leB a.data.toList b.data.toList = true) (fun a b _ _ h h' => leB_antisym a b h h') (sortS_sorted ys) (sortS_sorted xs) (((sortS_perm ys).trans h).trans (sortS_perm xs).symm)
/-- the program's normal form and the document's -/
theorem norm_doc {k n d : CfA} (hc : cfgC k = true) (hn : NormOf k n) (hd : NormDoc k d) : SameTx n d := by
  obtain ⟨_, n1, n2, _, _, n3, _⟩ := cfgC_good hc
  obtain ⟨s1, s2, s3⟩ := normOf_strict hc hn
  obtain ⟨a1, a2, a3, _, a6⟩ := hn
  obtain ⟨b1, b2, b3, b4, b5, b6, b7⟩ := hd
  refine ⟨by rw [a1, b1], sortedN_uniq a2 b2 n1, a3.trans b3.symm, sortedN_uniq a6 b4 n3, strict_uniq s1 b5 (fun x hx => b7 x (s2 x hx)) (fun y hy => s3 y (b6 y hy))⟩
/-- the normal forms of two that are the same but for the order, and for inhibits that are there twice -/
theorem norm_turned {k d x y : CfA} (hk : cfgC k = true) (hd : cfgC d = true) (h0 : d.rt.n = k.rt.n) (h1 : d.ru.Perm k.ru) (h2 : d.re.Perm k.re) (h3 : d.hr.Perm k.hr) (h4 : ∀ z, z ∈ d.ih ↔ z ∈ k.ih) (hx : NormOf k x) (hy : NormOf d y) : SameTx x y := by
  obtain ⟨_, n1, n2, _, _, n3, _⟩ := cfgC_good hk
  obtain ⟨s1, s2, s3⟩ := normOf_strict hk hx
  obtain ⟨t1, t2, t3⟩ := normOf_strict hd hy
  obtain ⟨a1, a2, a3, _, a6⟩ := hx
  obtain ⟨b1, b2, b3, _, b6⟩ := hy
  have c2 : SortedN RuA.name k.ru y.ru := ⟨b2.1.trans h1, b2.2⟩
  have c6 : SortedN HrA.n k.hr y.hr := ⟨b6.1.trans h3, b6.2⟩
  refine ⟨by rw [a1, b1, h0], sortedN_uniq a2 c2 n1, by rw [a3, b3, sortS_eq h2], sortedN_uniq a6 c6 n3, strict_uniq s1 t1 (fun z hz => t3 z ((h4 z).2 (s2 z hz))) (fun z hz => s3 z ((h4 z).1 (t2 z hz)))⟩
/-- what may be, may be in another order -/
theorem onceS_perm {xs ys : List ByteArray} (h : ys.Perm xs) : onceS ys = onceS xs := by
  rw [Bool.eq_iff_iff, onceT_iff, onceT_iff]
  exact h.nodup_iff
theorem amongB_mem {xs ls ls' : List ByteArray} (h : ∀ s, s ∈ ls' ↔ s ∈ ls) : amongB xs ls' = amongB xs ls := by
  rw [Bool.eq_iff_iff]
  simp only [amongB, List.all_eq_true, inB_iff, h]
theorem cfgC_turned {k d : CfA} (hk : cfgC k = true) (h0 : d.rt.n = k.rt.n) (h1 : d.ru.Perm k.ru) (h2 : d.re.Perm k.re) (h3 : d.hr.Perm k.hr) (h4 : ∀ z ∈ d.ih, z ∈ k.ih) (h5 : d.ih.length ≤ 8) : cfgC d = true := by
  simp only [cfgC, Bool.and_eq_true, decide_eq_true_eq, List.all_eq_true] at hk ⊢
  obtain ⟨⟨l1, a⟩, b, ⟨l2, b2⟩, c, ⟨l, d'⟩, ⟨l3, e⟩, f, r⟩ := hk
  refine ⟨⟨by rw [h1.length_eq]; exact l1, fun x hx => a x (h1.mem_iff.1 hx)⟩, by rw [onceS_perm (h1.map _)]; exact b, ⟨by rw [h2.length_eq]; exact l2, fun x hx => b2 x (h2.mem_iff.1 hx)⟩, by rw [onceS_perm h2]; exact c, ⟨h5, fun x hx => d' x (h4 x hx)⟩, ⟨by rw [h3.length_eq]; exact l3, fun x hx => e x (h3.mem_iff.1 hx)⟩, by rw [onceS_perm (h3.map _)]; exact f, ?_⟩
  unfold routeC at r ⊢
  rw [h0, amongB_mem (ls := k.re) (fun s => h2.mem_iff), amongB_mem (ls := k.hr.map HrA.n) (fun s => (h3.map HrA.n).mem_iff)]
  exact r
/-- a normal form may be -/
theorem cfgC_norm {k n : CfA} (hc : cfgC k = true) (hn : NormOf k n) : cfgC n = true := by
  have hs := normOf_strict hc hn
  have hl := (cfgC_good hc).2.2.2.2.2.2
  obtain ⟨a1, a2, a3, ⟨ys, a4, a5⟩, a6⟩ := hn
  refine cfgC_turned hc (by rw [a1]) a2.1 (by rw [a3]; exact sortS_perm _) a6.1 hs.2.1 ?_
  rw [a5]
  have h1 := compI_len ys
  have h2 := a4.1.length_eq
  omega
theorem inhs_val : ∀ (xs ys : List InA), (∀ x ∈ xs, InA.good x = true) → (∀ y ∈ ys, InA.good y = true) → (xs.map inhT = ys.map inhT ↔ xs.map InA.val = ys.map InA.val)
  | [], [], _, _ => by simp
  | [], _ :: _, _, _ => by simp
  | _ :: _, [], _, _ => by simp
  | x :: xs, y :: ys, h, h' => by
    have ih := inhs_val xs ys (fun z hz => h z (by simp [hz])) (fun z hz => h' z (by simp [hz]))
    simp only [List.map_cons, List.cons.injEq, ih]
    have e : inhT x = inhT y ↔ InA.val x = InA.val y := by
      constructor
      · intro e
        obtain ⟨h1, h2, h3⟩ := inhT_inj (h x (by simp)) (h' y (by simp)) e
        unfold InA.val; rw [h1, h2, h3]
      · intro e
        simp only [InA.val, Prod.mk.injEq] at e
        exact inhT_like ⟨e.1, e.2.1, e.2.2⟩
    rw [e]
/-- those that are the same are like one another -/
theorem sameTx_like {n d : CfA} (gn : ∀ z ∈ n.ih, InA.good z = true) (gd : ∀ z ∈ d.ih, InA.good z = true) (h : SameTx n d) : sameK n d = true := by
  obtain ⟨h1, h2, h3, h4, h5⟩ := h
  have h6 := (inhs_val _ _ gn gd).1 h5
  simp only [sameK, h1, h2, h3, h4, h6, Bool.and_eq_true, eqB_iff, decide_eq_true_eq, and_self]
theorem sameTx_cong {n n' d d' : CfA} (gn : ∀ z ∈ n.ih, InA.good z = true) (gn' : ∀ z ∈ n'.ih, InA.good z = true) (gd : ∀ z ∈ d.ih, InA.good z = true) (gd' : ∀ z ∈ d'.ih, InA.good z = true) (h : SameTx n d) (h' : SameTx n' d') : sameK n n' = sameK d d' := by
  obtain ⟨h1, h2, h3, h4, h5⟩ := h
  obtain ⟨k1, k2, k3, k4, k5⟩ := h'
  have e1 := (inhs_val _ _ gn gd).1 h5
  have e2 := (inhs_val _ _ gn' gd').1 k5
  unfold sameK
  rw [h1, h2, h3, h4, k1, k2, k3, k4, e1, e2]
end Go.Proofs.YtmhekhilgllciaaGreat
/- What stays while rows of the call's own are appended to and one block's cells are stored: all that was there, but that block. It speaks of no one program. -/
namespace Go.Proofs.YtmhekhilgllciaaGreat
open Go.RowKit

/-- W keeps all blocks of wa but block g -/
structure But (g : Nat) (wa W : World) : Prop where
  os : W.os = wa.os
  tape : W.tape = wa.tape
  output : W.output = wa.output
  size : wa.heap.size ≤ W.heap.size
  block : ∀ q, q < wa.heap.size → q ≠ g → W.heap[q]? = wa.heap[q]?
theorem But.refl (g : Nat) (w : World) : But g w w := ⟨rfl, rfl, rfl, Nat.le_refl _, fun _ _ _ => rfl⟩
theorem But.call {g : Nat} {wa W W1 : World} (h : But g wa W) (hb : Below W.heap.size W W1) : But g wa W1 :=
  ⟨hb.os.trans h.os, hb.tape.trans h.tape, hb.output.trans h.output, Nat.le_trans h.size hb.size, fun q hq hne => (hb.block q (Nat.lt_of_lt_of_le hq h.size)).trans (h.block q hq hne)⟩
theorem But.set {g : Nat} {wa W : World} (h : But g wa W) (i : Nat) (v : Value) : But g wa (W.setCell ⟨g, i, none⟩ v) :=
  ⟨h.os, h.tape, h.output, by simpa [World.setCell] using h.size, fun q hq hne => (Below.heap_setCell W ⟨g, i, none⟩ v q hne).trans (h.block q hq hne)⟩
theorem But.grown {A : Type} {enc : A → List Value} {k : Nat} {T : TypeId} {g : Nat} {wa W W1 : World} {v : Value} {xs : List A} (h : But g wa W) (ho : OwnX T k enc W wa.heap.size v xs) (hg : W.grownBy W1 v.ownBlock) : But g wa W1 :=
  ⟨hg.os.trans h.os, hg.tape.trans h.tape, hg.output.trans h.output, Nat.le_trans h.size hg.size, fun q hq hne => (hg.block q (Nat.lt_of_lt_of_le hq h.size) (ho.ne hq)).trans (h.block q hq hne)⟩
theorem But.grownS {T : TypeId} {g : Nat} {wa W W1 : World} {v : Value} {ss : List ByteArray} (h : But g wa W) (ho : OwnS T W wa.heap.size v ss) (hg : W.grownBy W1 v.ownBlock) : But g wa W1 :=
  ⟨hg.os.trans h.os, hg.tape.trans h.tape, hg.output.trans h.output, Nat.le_trans h.size hg.size, fun q hq hne => (hg.block q (Nat.lt_of_lt_of_le hq h.size) (ho.ne hq)).trans (h.block q hq hne)⟩
theorem But.below {g B : Nat} {w0 wa W : World} (h : But g wa W) (hb : Below B w0 wa) (hg : B ≤ g) (hB : B ≤ wa.heap.size) : Below B w0 W :=
  ⟨h.os.trans hb.os, h.tape.trans hb.tape, h.output.trans hb.output, Nat.le_trans hb.size h.size, fun q hq => (h.block q (by omega) (by omega)).trans (hb.block q hq)⟩
/-- rows of the call's own that lie behind that block -/
theorem But.ownX {A : Type} {enc : A → List Value} {k : Nat} {T : TypeId} {g base : Nat} {wa W : World} {v : Value} {xs : List A} (h : But g wa W) (hg : g < base) (ho : OwnX T k enc wa base v xs) : OwnX T k enc W base v xs :=
  ho.sameL fun q h1 h2 => h.block q h2 (by omega)
theorem But.ownS {T : TypeId} {g base : Nat} {wa W : World} {v : Value} {ss : List ByteArray} (h : But g wa W) (hg : g < base) (ho : OwnS T wa base v ss) : OwnS T W base v ss :=
  ho.sameL fun q h1 h2 => h.block q h2 (by omega)
/-- a push of one thing, and its row's place stored into the block -/
theorem But.trans {g : Nat} {wa wb W : World} (h : But g wa wb) (h2 : But g wb W) : But g wa W :=
  ⟨h2.os.trans h.os, h2.tape.trans h.tape, h2.output.trans h.output, Nat.le_trans h.size h2.size, fun q hq hne => (h2.block q (Nat.lt_of_lt_of_le hq h.size) hne).trans (h.block q hq hne)⟩
theorem But.of_below {g : Nat} {w W : World} (h : Below w.heap.size w W) : But g w W := ⟨h.os, h.tape, h.output, h.size, fun q hq _ => h.block q hq⟩
/-- another block -/
theorem Blk.but {w W : World} {g go : Nat} {t : TypeId} {cs : Array Value} (h : Blk w g t cs) (hb : But go w W) (_hl : go < w.heap.size) (hne : g ≠ go) : Blk W g t cs := (hb.block g h.lt hne).trans h
end Go.Proofs.YtmhekhilgllciaaGreat
/- What stands while the document's own Normal of layer 10 builds its rows, and that what it builds is a normal form. -/
namespace Go.Proofs.YtmhekhilgllciaaGreat
open Go.RowKit Go.Lib Go.Sort

theorem txA_map {A : Type} (d : A) (nm : A → ByteArray) (xs : List A) (i : Nat) (h : i < xs.length) : txA (xs.map nm) i = (nm (xs.getD i d)).data.toList := by
  rw [txA_lt (by simpa using h)]
  simp [h]
theorem pick_sorted {A : Type} (d : A) (nm : A → ByteArray) (xs : List A) : (pick d xs (plcN (xs.map nm) xs.length)).Pairwise (fun a b => lessB (nm a).data.toList (nm b).data.toList = true) := by
  unfold pick
  rw [List.pairwise_map]
  have hs := plcN_sorted (xs.map nm) xs.length (by simp)
  refine hs.imp_of_mem fun {i j} hi hj hij => ?_
  have h1 := plcN_lt _ _ i hi
  have h2 := plcN_lt _ _ j hj
  rw [txA_map d nm xs i h1, txA_map d nm xs j h2] at hij
  exact hij
theorem pick_all {A : Type} (d : A) (nm : A → ByteArray) (xs : List A) : ∀ x ∈ xs, ∃ y, y ∈ pick d xs (plcN (xs.map nm) xs.length) ∧ nm y = nm x := by
  intro x hx
  obtain ⟨i, hi, rfl⟩ := List.getElem_of_mem hx
  obtain ⟨j, hj, e⟩ := (plcN_set (xs.map nm) xs.length (by simp) (txA (xs.map nm) i)).2 ⟨i, hi, rfl⟩
  have hjl := plcN_lt _ _ j hj
  refine ⟨xs.getD j d, List.mem_map.2 ⟨j, hj, rfl⟩, ?_⟩
  rw [txA_map d nm xs j hjl, txA_map d nm xs i hi] at e
  have := bytes_of e
  rw [this]
  simp [hi]
theorem pick_sortedN {A : Type} (d : A) (nm : A → ByteArray) (xs : List A) (hn : (xs.map nm).Nodup) : SortedN nm xs (pick d xs (plcN (xs.map nm) xs.length)) := by
  refine ⟨pick_perm d xs _ (plcN_perm _ hn _ (by simp)), (pick_sorted d nm xs).imp fun {a b} h => ?_⟩
  simp only [leB, Bool.not_eq_true']
  exact lessB_asymm h
/-- the rows that are picked -/
def pkR (xs : List RuA) : List RuA := pick default xs (plcN (xs.map RuA.name) xs.length)
def pkH (xs : List HrA) : List HrA := pick default xs (plcN (xs.map HrA.n) xs.length)
def pkS (xs : List ByteArray) : List ByteArray := pick ⟨#[]⟩ xs (plcN xs xs.length)
def pkI (xs : List InA) : List InA := pick default xs (plcN (xs.map inhT) xs.length)
theorem plc_lt' {ss : List ByteArray} {n : Nat} {i : Nat} (h : i ∈ plcN ss n) : i < n := plcN_lt ss n i h
theorem norm_is {k d : CfA} (hc : cfgC k = true) (h0 : d.rt = k.rt) (h1 : d.ru = pkR k.ru) (h2 : d.re = pkS k.re) (h3 : d.hr = pkH k.hr) (h4 : d.ih = pkI k.ih) : NormDoc k d := by
  obtain ⟨_, n1, n2, _, _, n3, _⟩ := cfgC_good hc
  refine ⟨h0, by rw [h1]; exact pick_sortedN _ _ _ n1, ?_, by rw [h3]; exact pick_sortedN _ _ _ n3, by rw [h4]; exact pick_sorted _ _ _, ?_, by rw [h4]; exact pick_all _ _ _⟩
  · rw [h2]
    have a := pick_sortedN (⟨#[]⟩ : ByteArray) id k.re (by rwa [List.map_id])
    rw [List.map_id] at a
    exact sortedN_uniq a (sortS_sortedN k.re) (by rwa [List.map_id])
  · rw [h4]
    exact pick_mem _ _ _ (fun i hi => plc_lt' hi)
/-- between: the configuration's block and the result's stay, and what is built so far lies in block go -/
structure NSt (w : World) (g go : Nat) (kc oc : Array Value) (wa W : World) : Prop where
  below : Below w.heap.size w W
  ka : Blk W g 31 kc
  out : Blk W go 31 oc
  but : But go wa W
  l1 : g < wa.heap.size
  l2 : go < wa.heap.size
  ne : g ≠ go
  yg : w.heap.size ≤ go
theorem NSt.call {w wa W W1 : World} {g go : Nat} {kc oc : Array Value} (h : NSt w g go kc oc wa W) (hb : Below W.heap.size W W1) : NSt w g go kc oc wa W1 :=
  ⟨bthen h.below hb, h.ka.call hb, h.out.call hb, h.but.call hb, h.l1, h.l2, h.ne, h.yg⟩
theorem NSt.grown {A : Type} {enc : A → List Value} {k : Nat} {T : TypeId} {w wa W W1 : World} {g go : Nat} {kc oc : Array Value} {v : Value} {xs : List A} (h : NSt w g go kc oc wa W) (ho : OwnX T k enc W wa.heap.size v xs) (hg : W.grownBy W1 v.ownBlock) (hwa : w.heap.size ≤ wa.heap.size) : NSt w g go kc oc wa W1 :=
  ⟨ho.grown h.below hwa (Nat.le_trans hwa h.but.size) hg, h.ka.push hg (ho.ne h.l1), h.out.push hg (ho.ne h.l2), h.but.grown ho hg, h.l1, h.l2, h.ne, h.yg⟩
theorem NSt.grownS {T : TypeId} {w wa W W1 : World} {g go : Nat} {kc oc : Array Value} {v : Value} {ss : List ByteArray} (h : NSt w g go kc oc wa W) (ho : OwnS T W wa.heap.size v ss) (hg : W.grownBy W1 v.ownBlock) (hwa : w.heap.size ≤ wa.heap.size) : NSt w g go kc oc wa W1 :=
  ⟨ho.grown h.below hwa (Nat.le_trans hwa h.but.size) hg, h.ka.push hg (ho.ne h.l1), h.out.push hg (ho.ne h.l2), h.but.grownS ho hg, h.l1, h.l2, h.ne, h.yg⟩
theorem NSt.set {w wa W : World} {g go : Nat} {kc oc : Array Value} (h : NSt w g go kc oc wa W) (i : Nat) (v : Value) : NSt w g go kc (oc.setIfInBounds i v) wa (W.setCell ⟨go, i, none⟩ v) :=
  ⟨h.below.setCell (p := ⟨go, i, none⟩) h.yg v, h.ka.setO _ _ h.ne, h.out.set i v, h.but.set i v, h.l1, h.l2, h.ne, h.yg⟩
theorem NSt.start {w wa wb W : World} {g go : Nat} {kc oc : Array Value} (h : NSt w g go kc oc wa wb) (hb : Below wb.heap.size wb W) : NSt w g go kc oc W W :=
  ⟨bthen h.below hb, h.ka.call hb, h.out.call hb, But.refl _ _, (h.ka.call hb).lt, (h.out.call hb).lt, h.ne, h.yg⟩
theorem results_cell_D {P : Program} {fn : Func} {p : Tmp} {ty : TypeId} (h : fn.results = #[.cell p ty]) (tmps : Array Value) (w : World) (g : Nat) (t : TypeId) (cs : Array Value) (fr : Nat × Nat) (d : TypeDesc)
    (hp : tmps.getD p undef = .pointer (some ⟨g, 0, none⟩)) (hg : w.heap[g]? = some (.cells cs t fr))
    (hu : P.underlying ty = some d) (hd : (match d with | .struct _ | .array _ _ => true | _ => false) = true) (hi : (P.info? ty).map (·.size) = some cs.size) :
    (results fn tmps).run P w = .ok (.agg cs) w := by
  have hp' : tmps[p]?.getD undef = .pointer (some ⟨g, 0, none⟩) := by simpa using hp
  simp [results, h, hp', asAddr, run_loadVar_row w g t ty cs fr d hg hu hd hi]
theorem step_appX {A : Type} {enc : A → List Value} {k : Nat} {P : Program} (W : World) {ops : Array Oper} {o : Oper} {a : Act} {K : Act → World → Prop} {Q : Exit → Act → World → Prop} {E : Prop} (hgd : o.guard = none) (s x : Operand) (t : TypeId)
    (ho : o.op = .call { callee := .builtin .append, args := #[s, x], argTypes := #[t, t] })
    (base : Nat) (e : TypeId) (i : TypeInfo) (z : Value) (bytes : Nat) (ht : P.underlying t = some (.slice e)) (hi : P.info? e = some i) (hz : i.zero = some z) (hsize : i.size = k) (hby : i.bytes = bytes) (hzs : z.cells.size = k) (hb16 : bytes ≤ 1000)
    (v : Value) (xs : List A) (hs : a.eval s = v) (hown : OwnX e k enc W base v xs) (xv : Value) (m : Nat) (ms : List A) (hm : m = ms.length) (hx : a.eval x = xv) (hsrc : Src P k t xv m (rowV enc ms) W)
    (h63 : xs.length + ms.length ≤ 1000000) (hbase : base ≤ W.heap.size)
    (h : ∀ (na : Option Addr) (nn nc : Nat) (w' : World), nn = (xs ++ ms).length → OwnX e k enc w' base (.slice na nn nc) (xs ++ ms) → W.grownBy w' v.ownBlock → K (a.put o.dst (.slice na nn nc)) w') :
    if Region.wanted o (yielded ops a.tmps) = true then Oper.wp P o a W K Q else E := by
  have hw : Region.wanted o (yielded ops a.tmps) = true := by simp [Region.wanted, hgd]
  rw [if_pos hw]
  subst hsize hm
  have hsz : (xs.length + ms.length) * bytes ≤ 140737488355328 := Nat.le_trans (Nat.mul_le_mul h63 hb16) (by decide)
  obtain ⟨v', w', hr, h2, h3⟩ := run_append_src (P := P) W base t t o.type e i z bytes ht hi hz hby hzs v xs.length (rowV enc xs) hown xv ms.length (rowV enc ms) hsrc (by unfold maxLen; omega) hsz hbase
  have h5 : OwnX e i.size enc w' base v' (xs ++ ms) := by
    unfold OwnX
    rw [rowV_app, List.length_append]
    exact h2
  obtain ⟨na, nc, rfl, _, _⟩ := h5.form
  unfold Oper.wp execOp
  simp only [ho, resolve, invoke, builtin, Sem.run_bind, Sem.run_pure, Result.andThen_ok, List.map_toArray, List.map_cons, List.map_nil, hs, hx, hr]
  exact h na _ nc w' rfl h5 h3
def encS (s : ByteArray) : List Value := [.string s]
theorem encS_len (s : ByteArray) : (encS s).length = 1 := rfl
theorem encS_one (s : ByteArray) : ∀ u ∈ encS s, u.oneCell' = true := by
  intro u hu
  simp only [encS, List.mem_cons, List.not_mem_nil, or_false] at hu
  rw [hu]
  rfl
theorem rowV_encS (ss : List ByteArray) : rowV encS ss = strsV ss := by
  induction ss with
  | nil => rfl
  | cons s ss ih =>
    have e : rowV encS (s :: ss) = encS s ++ rowV encS ss := rfl
    rw [e, ih]
    simp [encS, strsV]
/-- a row of texts, either way -/
theorem ownS_of {T : TypeId} {w : World} {base : Nat} {v : Value} {ss : List ByteArray} (h : OwnX T 1 encS w base v ss) : OwnS T w base v ss := by
  unfold OwnX at h
  rw [rowV_encS] at h
  exact h
theorem InA.enc_oneD (x : InA) : ∀ v ∈ x.enc, v.oneCell' = true := by
  intro v hv
  simp only [InA.enc, List.mem_cons, List.not_mem_nil, or_false] at hv
  rcases hv with rfl | rfl | rfl <;> rfl
theorem InA.enc_lenD (x : InA) : x.enc.length = 3 := rfl
end Go.Proofs.YtmhekhilgllciaaGreat
/- The contracts of the document's own 'in' and 'ordered' of layer 9. -/
namespace Go.Proofs.YtmhekhilgllciaaGreat
open Go.RowKit

/-- each is greater than the one ahead of it -/
def ordT : List ByteArray → Bool
  | [] => true
  | [_] => true
  | a :: b :: t => lessB a.data.toList b.data.toList && ordT (b :: t)
theorem ord_end : ∀ (l : List ByteArray), ∃ J, 1 ≤ J ∧ (∀ k (h : k < l.length) (h1 : 1 ≤ k), k < J → lessB (l[k - 1]'(by omega)).data.toList l[k].data.toList = true) ∧
    ((l.length ≤ J ∧ ordT l = true) ∨ ∃ (h : J < l.length), lessB (l[J - 1]'(by omega)).data.toList l[J].data.toList = false ∧ ordT l = false)
  | [] => ⟨1, Nat.le_refl _, fun k h => by simp at h, .inl ⟨by simp, rfl⟩⟩
  | [a] => ⟨1, Nat.le_refl _, fun k h h1 => by simp at h; omega, .inl ⟨by simp, rfl⟩⟩
  | a :: b :: t => by
    cases e : lessB a.data.toList b.data.toList with
    | false => exact ⟨1, Nat.le_refl _, fun k h h1 hk => by omega, .inr ⟨by simp, e, by simp [ordT, e]⟩⟩
    | true =>
      obtain ⟨J, h1, h2, h3⟩ := ord_end (b :: t)
      refine ⟨J + 1, by omega, fun k hk hk1 hkJ => ?_, ?_⟩
      · match k, hk1 with
        | 1, _ => exact e
        | k + 2, _ => exact h2 (k + 1) (by simpa using hk) (by omega) (by omega)
      · rcases h3 with ⟨g1, g2⟩ | ⟨g1, g2, g3⟩
        · exact .inl ⟨by simpa using g1, by simp [ordT, e, g2]⟩
        · refine .inr ⟨by simpa using g1, ?_, by simp [ordT, e, g3]⟩
          match J, h1, g1, g2 with
          | J + 1, _, g1, g2 => exact g2
set_option maxRecDepth 100000 in
theorem rIn09_any (a b : Int) (w : World) : Calls Tryz.prog 182 #[.int .i64 a, .int .i64 b] w (BoolS (decide (b ≤ a) && decide (a ≤ 1099511627776)) w) := by
  by_cases h1 : b ≤ a
  · by_cases h2 : a ≤ 1099511627776
    · rw [decide_eq_true h1, decide_eq_true h2]
      go_enter Tryz.func182, Tryz.ntmps182
      go_wp2_with fail
      go_ret
      exact ⟨rfl, rfl⟩
    · rw [decide_eq_true h1, decide_eq_false h2]
      go_enter Tryz.func182, Tryz.ntmps182
      go_wp2_with fail
      go_ret
      exact ⟨rfl, rfl⟩
  · rw [decide_eq_false h1]
    go_enter Tryz.func182, Tryz.ntmps182
    go_wp2_with fail
    go_ret
    exact ⟨rfl, rfl⟩
set_option maxHeartbeats 6400000 in
set_option maxRecDepth 100000 in
theorem rOrd_any (a : Option Addr) (c : Nat) (ss : List ByteArray) (w : World) (h : HasStrs w a c ss) : Calls Tryz.prog 181 #[.slice a ss.length c] w (BoolW (ordT ss && decide (ss.length ≤ 8)) w) := by
  obtain ⟨h1, h2, h3, h4⟩ := h
  unfold maxLen at h2
  obtain ⟨J, hJ1, hJ2, hJ3⟩ := ord_end ss
  have H3 := Lib.hid h3
  have H4 := Lib.hid h4
  have HJ2 := Lib.hid hJ2
  have HJ3 := Lib.hid hJ3
  clear h3 h4 hJ2 hJ3
  go_enter Tryz.func181, Tryz.ntmps181
  go_wp2_with fail
  go_loopg [3] (max ss.length 1 - 1) (fun gg iv wr => ∃ j : Nat, j + 1 + gg = max ss.length 1 ∧ iv = .int .i64 ((j : Int) + 1) ∧ j + 1 ≤ J ∧ Below w.heap.size w wr)
  case atStart => exact ⟨0, by omega, rfl, by omega, Below.refl _ _⟩
  case round =>
    obtain ⟨j, hjg, rfl, hjJ, hbr⟩ := hrel
    cases gk with
    | zero =>
      have hO : ordT ss = true := by
        rcases HJ3.out with ⟨_, e⟩ | ⟨g1, _, _⟩
        · exact e
        · omega
      have HO := Lib.hid hO
      have hx : decide (((j : Int) + 1) < (ss.length : Int)) = false := decide_eq_false (by omega)
      have hy : decide ((ss.length : Int) ≤ 8) = decide (ss.length ≤ 8) := by rw [Bool.eq_iff_iff, decide_eq_true_iff, decide_eq_true_iff]; omega
      have HBR := Lib.hid hbr
      clear hO hbr
      generalize decide (ss.length ≤ 8) = B at *
      go_wp2_with fail
      go_ret
      exact ⟨by rw [HO.out]; rfl, HBR.out⟩
    | succ gg =>
      have hjl : j + 1 < ss.length := by omega
      obtain ⟨b, off, rfl, hbl, hc⟩ : ∃ b off, a = some ⟨b, off, none⟩ ∧ b < w.heap.size ∧ ∀ i (h : i < ss.length), w.cell? ⟨b, off + i, none⟩ = some (.string ss[i]) := by
        rcases H4.out with h | h
        · rw [h] at hjl; simp at hjl
        · exact h
      have hc0 := fun W (hW : Below wr.heap.size wr W) => cellL (bthen hbr hW) (hc j (by omega))
      have hc1 := fun W (hW : Below wr.heap.size wr W) => cellL (bthen hbr hW) (hc (j + 1) hjl)
      have hs0 := H3.out _ (List.getElem_mem (show j < ss.length by omega))
      have hs1 := H3.out _ (List.getElem_mem hjl)
      have hgo : j + 1 < J → lessB ss[j].data.toList ss[j + 1].data.toList = true := fun e => HJ2.out (j + 1) hjl (by omega) e
      have hno : j + 1 = J → lessB ss[j].data.toList ss[j + 1].data.toList = false ∧ ordT ss = false := fun e => by
        rcases HJ3.out with ⟨g1, _⟩ | ⟨g1, g2, g3⟩
        · omega
        · subst e
          exact ⟨g2, g3⟩
      generalize ss[j] = x at *
      generalize ss[j + 1] = y at *
      have hls := fun W => rLess_any x y W hs0 hs1
      generalize lessB x.data.toList y.data.toList = X at *
      have HLS := Lib.hid hls
      have HBR := Lib.hid hbr
      have c0 := hc0 wr.drew (below_drewN (Below.refl _ _) 1)
      have c1 := hc1 wr.drew (below_drewN (Below.refl _ _) 1)
      have c2 := hc0 wr (Below.refl _ _)
      have c3 := hc1 wr (Below.refl _ _)
      clear hls hbr hc hc0 hc1 hs0 hs1
      have hd : decide (((j : Int) + 1) < (ss.length : Int)) = true := decide_eq_true (by omega)
      have q1 : (j : Int) < (ss.length : Int) := by omega
      have q2 : (j : Int) + 1 < (ss.length : Int) := by omega
      have q3 : (0 : Int) ≤ (j : Int) + 1 := by omega
      have q4 : (j : Int) + 1 - 1 = (j : Int) := by omega
      have e2 : IntKind.i64.wrap ((j : Int) + 1 - 1) = (j : Int) := by rw [IntWalk.i64_in _ (by omega)]; omega
      have hl0 := fun x => later_cell c2 x
      have hl1 := fun x => later_cell c3 x
      by_cases hjJ2 : j + 1 = J
      · obtain ⟨rfl, hno2⟩ := hno hjJ2
        have HN2 := Lib.hid hno2
        clear hno hgo hno2 hjJ2 hjJ
        go_upto_region 4 with fail
        refine wp_region_later (by kernel_rfl) (by kernel_rfl) ?_
        repeat (go_big_quiet_step (first | (go_at_call 76; exact calls_later_drew (HLS.out _))))
        refine wpQuiet_nil ?_
        rintro _ ⟨x, rfl⟩
        have hb2 := HBR.out.trans ((later_below wr x).mono HBR.out.size)
        generalize later wr x = w2 at *
        clear hl0 hl1 c0 c1 c2 c3
        go_wp2_with fail
        go_ret
        exact ⟨by rw [HN2.out]; rfl, hb2⟩
      · obtain rfl := hgo (by omega)
        clear hno hgo
        go_upto_region 4 with fail
        refine wp_region_later (by kernel_rfl) (by kernel_rfl) ?_
        repeat (go_big_quiet_step (first | (go_at_call 76; exact calls_later_drew (HLS.out _))))
        refine wpQuiet_nil ?_
        rintro _ ⟨x, rfl⟩
        have hb2 := HBR.out.trans ((later_below wr x).mono HBR.out.size)
        generalize later wr x = w2 at *
        clear hl0 hl1 c0 c1 c2 c3
        go_wp2_with fail
        go_roundg gg
        case measure => omega
        case rel => exact ⟨j + 1, by omega, by go_num, by omega, hb2⟩
end Go.Proofs.YtmhekhilgllciaaGreat
/- Which routes may be, said as the document's own answer asks it. Mathematics alone. -/
namespace Go.Proofs.YtmhekhilgllciaaGreat

theorem ordT_iff : ∀ (l : List ByteArray), ordT l = true ↔ ∀ j (h : j + 1 < l.length), lessB l[j].data.toList l[j + 1].data.toList = true
  | [] => by simp [ordT]
  | [_] => by simp [ordT]
  | a :: b :: t => by
    rw [ordT, Bool.and_eq_true, ordT_iff (b :: t)]
    constructor
    · rintro ⟨h1, h2⟩ j hj
      cases j with
      | zero => exact h1
      | succ j => exact h2 j (by simpa using hj)
    · intro h
      exact ⟨h 0 (by simp), fun j hj => h (j + 1) (by simpa using hj)⟩
theorem allU_is (us : List ByteArray) : allU us = (us.all (fun u => bwC u.data.toList) && ordT us) := by
  rw [Bool.eq_iff_iff]
  simp only [allU, List.all_eq_true, List.mem_range, Bool.and_eq_true, ordT_iff]
  constructor
  · intro h
    refine ⟨fun u hu => ?_, fun j hj => ?_⟩
    · obtain ⟨k, hk, rfl⟩ := List.getElem_of_mem hu
      have := h k hk
      cases k with
      | zero => rwa [okU_zero _ hk] at this
      | succ j =>
        rw [okU_succ _ _ hk, Bool.and_eq_true] at this
        exact this.1
    · have := h (j + 1) hj
      rw [okU_succ _ _ hj, Bool.and_eq_true] at this
      exact this.2
  · rintro ⟨h1, h2⟩ k hk
    cases k with
    | zero =>
      rw [okU_zero _ hk]
      exact h1 _ (List.getElem_mem hk)
    | succ j =>
      rw [okU_succ _ _ hk, Bool.and_eq_true]
      exact ⟨h1 _ (List.getElem_mem hk), h2 j hk⟩
theorem valV : valC (⟨#[118]⟩ : ByteArray).data.toList = true := by decide
theorem rightBy_is (bs : List ByteArray) : rightC (byLabs bs) = (bs.all (fun u => nameC u.data.toList) && (ordT bs && decide (bs.length ≤ 8))) := by
  have hl : (byLabs bs).length = bs.length := by simp [byLabs]
  have hg : ∀ k (h : k < (byLabs bs).length), (byLabs bs)[k] = (bs[k]'(by omega), ⟨#[118]⟩) := fun k h => by simp [byLabs]
  have hc : ∀ b : ByteArray, labC (b, ⟨#[118]⟩) = nameC b.data.toList := fun b => by
    unfold labC
    rw [show ((b, (⟨#[118]⟩ : ByteArray)) : Lab).2 = ⟨#[118]⟩ from rfl, valV, Bool.and_true]
  rw [Bool.eq_iff_iff]
  simp only [rightC, List.all_eq_true, List.mem_range, Bool.and_eq_true, ordT_iff, decide_eq_true_eq, hl]
  constructor
  · rintro ⟨h0, h⟩
    refine ⟨fun u hu => ?_, fun j hj => ?_, h0⟩
    · obtain ⟨k, hk, rfl⟩ := List.getElem_of_mem hu
      have := h k hk
      cases k with
      | zero =>
        rw [okAt_zero _ (by omega), hg, hc] at this
        exact this
      | succ j =>
        rw [okAt_succ _ _ (by omega), Bool.and_eq_true, hg, hc] at this
        exact this.1
    · have := h (j + 1) hj
      rw [okAt_succ _ _ (by omega), Bool.and_eq_true, hg, hg] at this
      exact this.2
  · rintro ⟨h1, h2, h0⟩
    refine ⟨h0, fun k hk => ?_⟩
    cases k with
    | zero =>
      rw [okAt_zero _ (by omega), hg, hc]
      exact h1 _ (List.getElem_mem hk)
    | succ j =>
      rw [okAt_succ _ _ (by omega), Bool.and_eq_true, hg, hg, hc]
      exact ⟨h1 _ (List.getElem_mem hk), h2 j hk⟩
/-- may a route be, those within it aside, in the order in which the document's own answer asks -/
theorem alone_is (n : Rt) : aloneC n = (n.ms.all rightM && (n.bys.all (fun u => nameC u.data.toList) && (n.mute.all (fun u => bwC u.data.toList) &&
    (bwC n.recv.data.toList && (decide (n.ms.length ≤ 8) && ((ordT n.bys && decide (n.bys.length ≤ 8)) && ((ordT n.mute && decide (n.mute.length ≤ 8)) && ((decide (0 ≤ n.wait) && decide (n.wait ≤ 1099511627776)) && ((decide (1 ≤ n.every) && decide (n.every ≤ 1099511627776)) && ((decide (1 ≤ n.rep) && decide (n.rep ≤ 1099511627776)) && decide (n.kids.length ≤ 16))))))))))) := by
  unfold aloneC matchC timesC muteC inRt
  rw [allU_is, rightBy_is]
  generalize n.ms.all rightM = a1
  generalize (n.bys.all fun u => nameC u.data.toList) = a2
  generalize (n.mute.all fun u => bwC u.data.toList) = a3
  generalize bwC n.recv.data.toList = a4
  generalize decide (n.ms.length ≤ 8) = a5
  generalize ordT n.bys = a6
  generalize decide (n.bys.length ≤ 8) = a7
  generalize ordT n.mute = a8
  generalize decide (n.mute.length ≤ 8) = a9
  generalize decide (n.kids.length ≤ 16) = b1
  generalize (decide (0 ≤ n.wait) && decide (n.wait ≤ 1099511627776)) = b2
  generalize (decide (1 ≤ n.every) && decide (n.every ≤ 1099511627776)) = b3
  generalize (decide (1 ≤ n.rep) && decide (n.rep ≤ 1099511627776)) = b4
  cases a1 <;> cases a2 <;> cases a3 <;> cases a4 <;> simp only [Bool.true_and, Bool.false_and, Bool.and_false, Bool.and_true] <;> cases a5 <;> cases a6 <;> cases a7 <;> simp only [Bool.true_and, Bool.false_and, Bool.and_false, Bool.and_true] <;> cases a8 <;> cases a9 <;> simp only [Bool.true_and, Bool.false_and, Bool.and_false, Bool.and_true] <;> cases b1 <;> cases b2 <;> cases b3 <;> cases b4 <;> rfl
end Go.Proofs.YtmhekhilgllciaaGreat
