/- ConfigForms, where the first configuration may not be. -/
import Derived.Test.YtmhekhilgllciaaGreatMg18
namespace Go.Proofs.YtmhekhilgllciaaGreat
open Go.RowKit Go.Lib Go.Sort

set_option maxHeartbeats 51200000 in
set_option maxRecDepth 100000 in
theorem form_A (a b : CfA) (w : World) (ha : a.ok w) (hb : b.ok w) (hca : cfgC a = false) : Calls Tryz.prog 3 #[.agg (kCells a), .agg (kCells b)] w (fun e w' => e = .returned (.bool true) ∧ Below w.heap.size w w') := by
  have hb1 := (Below.refl w.heap.size w).alloc (Nat.le_refl _) (.cells (kCells a) 31)
  have hb2 := balR (o := .cells (kCells b) 31) hb1
  have hA := (Blk.new w 31 (kCells a)).alloc (.cells (kCells b) 31)
  have hZ := nbR w (.cells (kCells a) 31) (kCells b) 31
  have HBA := Lib.hid (fun W (hW : Below w.heap.size w W) => big_any a W (ha.call hW))
  have HBB := Lib.hid (fun W (hW : Below w.heap.size w W) => big_any b W (hb.call hW))
  have HAL := Lib.hid (fun W => alive10_any W)
  have HRA := Lib.hid (fun W (hW : Below w.heap.size w W) => show Calls Tryz.prog 9 #[.agg (kCells a)] W (BoolB false W) from hca ▸ cfgRight_any a W (ha.call hW))
  have HDA := Lib.hid (fun W (hW : Below w.heap.size w W) h1 h2 => show Calls Tryz.prog 8 #[.agg (kCells a)] W (BoolB false W) from hca ▸ rRight10_any a W (ha.call hW) h1 h2)
  obtain ⟨Rb, hRb⟩ : ∃ R, cfgC b = R := ⟨_, rfl⟩
  have HRB := Lib.hid (fun W (hW : Below w.heap.size w W) => show Calls Tryz.prog 9 #[.agg (kCells b)] W (BoolB Rb W) from hRb ▸ cfgRight_any b W (hb.call hW))
  have HDB := Lib.hid (fun W (hW : Below w.heap.size w W) h1 h2 => show Calls Tryz.prog 8 #[.agg (kCells b)] W (BoolB Rb W) from hRb ▸ rRight10_any b W (hb.call hW) h1 h2)
  have HSA := Lib.hid (fun W (hW : Below w.heap.size w W) => same_no (.inl hca) (ha.call hW) (hb.call hW))
  have HSS := Lib.hid (fun W (hW : Below w.heap.size w W) => same_no (.inl hca) (ha.call hW) (ha.call hW))
  have HNO := Lib.hid (fun W (hW : Below w.heap.size w W) => norm_no ha hW hca)
  have HB := Lib.hid hb2
  simp only [kCells] at *
  clear hb1 hb2 ha hb hca hRb
  go_enter Tryz.func3, Tryz.ntmps3
  go_upto_region 1 with fail
  obtain ⟨wx, hwx⟩ : ∃ wx, (w.alloc (.cells #[.slice a.ua a.ru.length a.uc, .string a.rt.n.recv, .slice a.rt.ma a.rt.n.ms.length a.rt.mc, .slice a.rt.ba a.rt.n.bys.length a.rt.bc, .int .i64 a.rt.n.wait, .int .i64 a.rt.n.every, .int .i64 a.rt.n.rep, .slice a.rt.ua a.rt.n.mute.length a.rt.uc, .bool a.rt.n.on, .slice a.rt.ka a.rt.n.kids.length a.rt.kc, .slice a.ra a.re.length a.rc, .slice a.ia a.ih.length a.ic, .slice a.ha a.hr.length a.hc] 31)).alloc (.cells #[.slice b.ua b.ru.length b.uc, .string b.rt.n.recv, .slice b.rt.ma b.rt.n.ms.length b.rt.mc, .slice b.rt.ba b.rt.n.bys.length b.rt.bc, .int .i64 b.rt.n.wait, .int .i64 b.rt.n.every, .int .i64 b.rt.n.rep, .slice b.rt.ua b.rt.n.mute.length b.rt.uc, .bool b.rt.n.on, .slice b.rt.ka b.rt.n.kids.length b.rt.kc, .slice b.ra b.re.length b.rc, .slice b.ia b.ih.length b.ic, .slice b.ha b.hr.length b.hc] 31) = wx := ⟨_, rfl⟩
  simp only [hwx] at *
  clear hwx
  obtain ⟨g, hg⟩ : ∃ g, w.heap.size = g := ⟨_, rfl⟩
  rw [hg] at hA hZ ⊢
  clear hg
  have HA := Lib.hid (fun W (hW : Below wx.heap.size wx W) => (hA.call hW).cells13)
  have HZ := Lib.hid (fun W (hW : Below wx.heap.size wx W) => (hZ.call hW).cells13)
  clear hA hZ
  obtain ⟨c0, c1, c2, c3, c4, c5, c6, c7, c8, c9, c10, c11, c12⟩ := HA.out wx (Below.refl _ _)
  go_upto_region 3 with (first
    | (go_at_call 5; (with_reducible refine (HBA.out _ HB.out).mono ?_); rintro e w2 ⟨b1, rfl, hb2, hbig1⟩; have hx2 := hb2; have hbe2 := bthen HB.out hb2; clear c0 c1 c2 c3 c4 c5 c6 c7 c8 c9 c10 c11 c12; obtain ⟨d0, d1, d2, d3, d4, d5, d6, d7, d8, d9, d10, d11, d12⟩ := HZ.out _ hx2)
    | (go_at_call 5; (with_reducible refine (HBB.out _ hbe2).mono ?_); rintro e w3 ⟨b2, rfl, hb3, hbig2⟩; have hx3 := bthen hx2 hb3; have hbe3 := bthen hbe2 hb3; clear d0 d1 d2 d3 d4 d5 d6 d7 d8 d9 d10 d11 d12; obtain ⟨c0, c1, c2, c3, c4, c5, c6, c7, c8, c9, c10, c11, c12⟩ := HA.out _ hx3)
    | (go_at_call 6; refine (HAL.out _).mono ?_; rintro e w4 ⟨rfl, hb4⟩))
  iterate 2
    · go_ret
      first
        | exact ⟨rfl, bthen hbe3 hb4⟩
        | exact ⟨rfl, bthen hbe2 hb4⟩
  have hla := hbig1 (by first | assumption | (simpa using ‹¬ b1 = true›))
  have hlb := hbig2 (by first | assumption | (simpa using ‹¬ b2 = true›))
  have HLA := Lib.hid hla
  have HLB := Lib.hid hlb
  clear HBA HBB hbig1 hbig2 hla hlb
  go_upto_region 4 with (go_at_call 7; (with_reducible refine (HNO.out _ hbe3).mono ?_); rintro e w5 ⟨hb5, rfl⟩; have hx5 := bthen hx3 hb5; have hbe5 := bthen hbe3 hb5)
  clear c0 c1 c2 c3 c4 c5 c6 c7 c8 c9 c10 c11 c12
  have hbn := (Below.refl w5.heap.size w5).alloc (Nat.le_refl _) (.cells #[.slice none 0 0, .string ⟨#[]⟩, .slice none 0 0, .slice none 0 0, .int .i64 0, .int .i64 0, .int .i64 0, .slice none 0 0, .bool false, .slice none 0 0, .slice none 0 0, .slice none 0 0, .slice none 0 0] 31)
  have hN := Blk.new w5 31 #[.slice none 0 0, .string ⟨#[]⟩, .slice none 0 0, .slice none 0 0, .int .i64 0, .int .i64 0, .int .i64 0, .slice none 0 0, .bool false, .slice none 0 0, .slice none 0 0, .slice none 0 0, .slice none 0 0]
  have HBX := Lib.hid (bthen hx5 hbn)
  have HBE := Lib.hid (bthen hbe5 hbn)
  have HB5 := Lib.hid hbn
  (try simp only [kCells] at *)
  generalize hwn : w5.alloc (.cells #[.slice none 0 0, .string ⟨#[]⟩, .slice none 0 0, .slice none 0 0, .int .i64 0, .int .i64 0, .int .i64 0, .slice none 0 0, .bool false, .slice none 0 0, .slice none 0 0, .slice none 0 0, .slice none 0 0] 31) = wn at *
  clear hwn
  obtain ⟨g5, hg5⟩ : ∃ q, w5.heap.size = q := ⟨_, rfl⟩
  rw [hg5] at hN ⊢
  clear hg5 hbn hx5 hbe5 hb5 hx3 hbe3 hb3 hb2 hx2 hbe2
  have HNC := Lib.hid (fun W (hW : Below wn.heap.size wn W) => (hN.call hW).cells13)
  clear hN
  have hd0 := (Below.refl wn.heap.size wn).drew
  have hS : (fun w' : World => (w'.cell? ⟨g, 0, none⟩ = some (.slice a.ua a.ru.length a.uc) ∧ w'.cell? ⟨g, 1, none⟩ = some (.string a.rt.n.recv) ∧ w'.cell? ⟨g, 2, none⟩ = some (.slice a.rt.ma a.rt.n.ms.length a.rt.mc) ∧ w'.cell? ⟨g, 3, none⟩ = some (.slice a.rt.ba a.rt.n.bys.length a.rt.bc) ∧ w'.cell? ⟨g, 4, none⟩ = some (.int .i64 a.rt.n.wait) ∧ w'.cell? ⟨g, 5, none⟩ = some (.int .i64 a.rt.n.every) ∧ w'.cell? ⟨g, 6, none⟩ = some (.int .i64 a.rt.n.rep) ∧ w'.cell? ⟨g, 7, none⟩ = some (.slice a.rt.ua a.rt.n.mute.length a.rt.uc) ∧ w'.cell? ⟨g, 8, none⟩ = some (.bool a.rt.n.on) ∧ w'.cell? ⟨g, 9, none⟩ = some (.slice a.rt.ka a.rt.n.kids.length a.rt.kc) ∧ w'.cell? ⟨g, 10, none⟩ = some (.slice a.ra a.re.length a.rc) ∧ w'.cell? ⟨g, 11, none⟩ = some (.slice a.ia a.ih.length a.ic) ∧ w'.cell? ⟨g, 12, none⟩ = some (.slice a.ha a.hr.length a.hc)) ∧ (w'.cell? ⟨g + 1, 0, none⟩ = some (.slice b.ua b.ru.length b.uc) ∧ w'.cell? ⟨g + 1, 1, none⟩ = some (.string b.rt.n.recv) ∧ w'.cell? ⟨g + 1, 2, none⟩ = some (.slice b.rt.ma b.rt.n.ms.length b.rt.mc) ∧ w'.cell? ⟨g + 1, 3, none⟩ = some (.slice b.rt.ba b.rt.n.bys.length b.rt.bc) ∧ w'.cell? ⟨g + 1, 4, none⟩ = some (.int .i64 b.rt.n.wait) ∧ w'.cell? ⟨g + 1, 5, none⟩ = some (.int .i64 b.rt.n.every) ∧ w'.cell? ⟨g + 1, 6, none⟩ = some (.int .i64 b.rt.n.rep) ∧ w'.cell? ⟨g + 1, 7, none⟩ = some (.slice b.rt.ua b.rt.n.mute.length b.rt.uc) ∧ w'.cell? ⟨g + 1, 8, none⟩ = some (.bool b.rt.n.on) ∧ w'.cell? ⟨g + 1, 9, none⟩ = some (.slice b.rt.ka b.rt.n.kids.length b.rt.kc) ∧ w'.cell? ⟨g + 1, 10, none⟩ = some (.slice b.ra b.re.length b.rc) ∧ w'.cell? ⟨g + 1, 11, none⟩ = some (.slice b.ia b.ih.length b.ic) ∧ w'.cell? ⟨g + 1, 12, none⟩ = some (.slice b.ha b.hr.length b.hc))) wn.drew := ⟨HA.out _ (bthen HBX.out hd0), HZ.out _ (bthen HBX.out hd0)⟩
  refine wp_region_marked (fun w' : World => (w'.cell? ⟨g, 0, none⟩ = some (.slice a.ua a.ru.length a.uc) ∧ w'.cell? ⟨g, 1, none⟩ = some (.string a.rt.n.recv) ∧ w'.cell? ⟨g, 2, none⟩ = some (.slice a.rt.ma a.rt.n.ms.length a.rt.mc) ∧ w'.cell? ⟨g, 3, none⟩ = some (.slice a.rt.ba a.rt.n.bys.length a.rt.bc) ∧ w'.cell? ⟨g, 4, none⟩ = some (.int .i64 a.rt.n.wait) ∧ w'.cell? ⟨g, 5, none⟩ = some (.int .i64 a.rt.n.every) ∧ w'.cell? ⟨g, 6, none⟩ = some (.int .i64 a.rt.n.rep) ∧ w'.cell? ⟨g, 7, none⟩ = some (.slice a.rt.ua a.rt.n.mute.length a.rt.uc) ∧ w'.cell? ⟨g, 8, none⟩ = some (.bool a.rt.n.on) ∧ w'.cell? ⟨g, 9, none⟩ = some (.slice a.rt.ka a.rt.n.kids.length a.rt.kc) ∧ w'.cell? ⟨g, 10, none⟩ = some (.slice a.ra a.re.length a.rc) ∧ w'.cell? ⟨g, 11, none⟩ = some (.slice a.ia a.ih.length a.ic) ∧ w'.cell? ⟨g, 12, none⟩ = some (.slice a.ha a.hr.length a.hc)) ∧ (w'.cell? ⟨g + 1, 0, none⟩ = some (.slice b.ua b.ru.length b.uc) ∧ w'.cell? ⟨g + 1, 1, none⟩ = some (.string b.rt.n.recv) ∧ w'.cell? ⟨g + 1, 2, none⟩ = some (.slice b.rt.ma b.rt.n.ms.length b.rt.mc) ∧ w'.cell? ⟨g + 1, 3, none⟩ = some (.slice b.rt.ba b.rt.n.bys.length b.rt.bc) ∧ w'.cell? ⟨g + 1, 4, none⟩ = some (.int .i64 b.rt.n.wait) ∧ w'.cell? ⟨g + 1, 5, none⟩ = some (.int .i64 b.rt.n.every) ∧ w'.cell? ⟨g + 1, 6, none⟩ = some (.int .i64 b.rt.n.rep) ∧ w'.cell? ⟨g + 1, 7, none⟩ = some (.slice b.rt.ua b.rt.n.mute.length b.rt.uc) ∧ w'.cell? ⟨g + 1, 8, none⟩ = some (.bool b.rt.n.on) ∧ w'.cell? ⟨g + 1, 9, none⟩ = some (.slice b.rt.ka b.rt.n.kids.length b.rt.kc) ∧ w'.cell? ⟨g + 1, 10, none⟩ = some (.slice b.ra b.re.length b.rc) ∧ w'.cell? ⟨g + 1, 11, none⟩ = some (.slice b.ia b.ih.length b.ic) ∧ w'.cell? ⟨g + 1, 12, none⟩ = some (.slice b.ha b.hr.length b.hc))) 5 (by kernel_rfl) ?_
  refine wpAnyM_loadP [] (v := ?v0R) 0 rfl (by kernel_rfl) (by kernel_rfl) (by kernel_rfl) (by kernel_rfl) (by decide) (by kernel_rfl) (fun _ _ _ h => h) (Or.inl ⟨by rfl, ?hy0R⟩) hS ?rest0R
  case hy0R => intro wq hSw; (try dsimp only at hSw); obtain ⟨⟨s0, s1, s2, s3, s4, s5, s6, s7, s8, s9, s10, s11, s12⟩, ⟨z0, z1, z2, z3, z4, z5, z6, z7, z8, z9, z10, z11, z12⟩⟩ := hSw; go_simp; (try with_reducible rfl)
  case rest0R =>
  try simp only [Act.put, List.setIfInBounds_toArray, List.set_cons_zero, List.set_cons_succ]
  refine wpAnyM_loadP [] (v := ?v2R) 2 rfl (by kernel_rfl) (by kernel_rfl) (by kernel_rfl) (by kernel_rfl) (by decide) (by kernel_rfl) (fun _ _ _ h => h) (Or.inl ⟨by rfl, ?hy2R⟩) hS ?rest2R
  case hy2R => intro wq hSw; (try dsimp only at hSw); obtain ⟨⟨s0, s1, s2, s3, s4, s5, s6, s7, s8, s9, s10, s11, s12⟩, ⟨z0, z1, z2, z3, z4, z5, z6, z7, z8, z9, z10, z11, z12⟩⟩ := hSw; go_simp; (try with_reducible rfl)
  case rest2R =>
  try simp only [Act.put, List.setIfInBounds_toArray, List.set_cons_zero, List.set_cons_succ]
  refine wpAnyM_one 1 rfl (by kernel_rfl) (fun K hK => ?_)
  go_simp
  go_at_call 8
  (with_reducible refine (HDA.out _ (bthen HBE.out hd0) (by have := HLA.out; omega) (by have := HLA.out; omega)).mono ?_)
  rintro e u1 ⟨rfl, hd1⟩
  have hq1 := bthen hd0 hd1
  refine hK.out _ _ (⟨HA.out _ (bthen HBX.out hq1), HZ.out _ (bthen HBX.out hq1)⟩ : (fun w' : World => (w'.cell? ⟨g, 0, none⟩ = some (.slice a.ua a.ru.length a.uc) ∧ w'.cell? ⟨g, 1, none⟩ = some (.string a.rt.n.recv) ∧ w'.cell? ⟨g, 2, none⟩ = some (.slice a.rt.ma a.rt.n.ms.length a.rt.mc) ∧ w'.cell? ⟨g, 3, none⟩ = some (.slice a.rt.ba a.rt.n.bys.length a.rt.bc) ∧ w'.cell? ⟨g, 4, none⟩ = some (.int .i64 a.rt.n.wait) ∧ w'.cell? ⟨g, 5, none⟩ = some (.int .i64 a.rt.n.every) ∧ w'.cell? ⟨g, 6, none⟩ = some (.int .i64 a.rt.n.rep) ∧ w'.cell? ⟨g, 7, none⟩ = some (.slice a.rt.ua a.rt.n.mute.length a.rt.uc) ∧ w'.cell? ⟨g, 8, none⟩ = some (.bool a.rt.n.on) ∧ w'.cell? ⟨g, 9, none⟩ = some (.slice a.rt.ka a.rt.n.kids.length a.rt.kc) ∧ w'.cell? ⟨g, 10, none⟩ = some (.slice a.ra a.re.length a.rc) ∧ w'.cell? ⟨g, 11, none⟩ = some (.slice a.ia a.ih.length a.ic) ∧ w'.cell? ⟨g, 12, none⟩ = some (.slice a.ha a.hr.length a.hc)) ∧ (w'.cell? ⟨g + 1, 0, none⟩ = some (.slice b.ua b.ru.length b.uc) ∧ w'.cell? ⟨g + 1, 1, none⟩ = some (.string b.rt.n.recv) ∧ w'.cell? ⟨g + 1, 2, none⟩ = some (.slice b.rt.ma b.rt.n.ms.length b.rt.mc) ∧ w'.cell? ⟨g + 1, 3, none⟩ = some (.slice b.rt.ba b.rt.n.bys.length b.rt.bc) ∧ w'.cell? ⟨g + 1, 4, none⟩ = some (.int .i64 b.rt.n.wait) ∧ w'.cell? ⟨g + 1, 5, none⟩ = some (.int .i64 b.rt.n.every) ∧ w'.cell? ⟨g + 1, 6, none⟩ = some (.int .i64 b.rt.n.rep) ∧ w'.cell? ⟨g + 1, 7, none⟩ = some (.slice b.rt.ua b.rt.n.mute.length b.rt.uc) ∧ w'.cell? ⟨g + 1, 8, none⟩ = some (.bool b.rt.n.on) ∧ w'.cell? ⟨g + 1, 9, none⟩ = some (.slice b.rt.ka b.rt.n.kids.length b.rt.kc) ∧ w'.cell? ⟨g + 1, 10, none⟩ = some (.slice b.ra b.re.length b.rc) ∧ w'.cell? ⟨g + 1, 11, none⟩ = some (.slice b.ia b.ih.length b.ic) ∧ w'.cell? ⟨g + 1, 12, none⟩ = some (.slice b.ha b.hr.length b.hc))) u1) ?_
  clear hS
  have hS : (fun w' : World => (w'.cell? ⟨g, 0, none⟩ = some (.slice a.ua a.ru.length a.uc) ∧ w'.cell? ⟨g, 1, none⟩ = some (.string a.rt.n.recv) ∧ w'.cell? ⟨g, 2, none⟩ = some (.slice a.rt.ma a.rt.n.ms.length a.rt.mc) ∧ w'.cell? ⟨g, 3, none⟩ = some (.slice a.rt.ba a.rt.n.bys.length a.rt.bc) ∧ w'.cell? ⟨g, 4, none⟩ = some (.int .i64 a.rt.n.wait) ∧ w'.cell? ⟨g, 5, none⟩ = some (.int .i64 a.rt.n.every) ∧ w'.cell? ⟨g, 6, none⟩ = some (.int .i64 a.rt.n.rep) ∧ w'.cell? ⟨g, 7, none⟩ = some (.slice a.rt.ua a.rt.n.mute.length a.rt.uc) ∧ w'.cell? ⟨g, 8, none⟩ = some (.bool a.rt.n.on) ∧ w'.cell? ⟨g, 9, none⟩ = some (.slice a.rt.ka a.rt.n.kids.length a.rt.kc) ∧ w'.cell? ⟨g, 10, none⟩ = some (.slice a.ra a.re.length a.rc) ∧ w'.cell? ⟨g, 11, none⟩ = some (.slice a.ia a.ih.length a.ic) ∧ w'.cell? ⟨g, 12, none⟩ = some (.slice a.ha a.hr.length a.hc)) ∧ (w'.cell? ⟨g + 1, 0, none⟩ = some (.slice b.ua b.ru.length b.uc) ∧ w'.cell? ⟨g + 1, 1, none⟩ = some (.string b.rt.n.recv) ∧ w'.cell? ⟨g + 1, 2, none⟩ = some (.slice b.rt.ma b.rt.n.ms.length b.rt.mc) ∧ w'.cell? ⟨g + 1, 3, none⟩ = some (.slice b.rt.ba b.rt.n.bys.length b.rt.bc) ∧ w'.cell? ⟨g + 1, 4, none⟩ = some (.int .i64 b.rt.n.wait) ∧ w'.cell? ⟨g + 1, 5, none⟩ = some (.int .i64 b.rt.n.every) ∧ w'.cell? ⟨g + 1, 6, none⟩ = some (.int .i64 b.rt.n.rep) ∧ w'.cell? ⟨g + 1, 7, none⟩ = some (.slice b.rt.ua b.rt.n.mute.length b.rt.uc) ∧ w'.cell? ⟨g + 1, 8, none⟩ = some (.bool b.rt.n.on) ∧ w'.cell? ⟨g + 1, 9, none⟩ = some (.slice b.rt.ka b.rt.n.kids.length b.rt.kc) ∧ w'.cell? ⟨g + 1, 10, none⟩ = some (.slice b.ra b.re.length b.rc) ∧ w'.cell? ⟨g + 1, 11, none⟩ = some (.slice b.ia b.ih.length b.ic) ∧ w'.cell? ⟨g + 1, 12, none⟩ = some (.slice b.ha b.hr.length b.hc))) u1 := ⟨HA.out _ (bthen HBX.out hq1), HZ.out _ (bthen HBX.out hq1)⟩
  clear hK
  try simp only [Act.put, List.setIfInBounds_toArray, List.set_cons_zero, List.set_cons_succ]
  refine wpAnyM_one 3 rfl (by kernel_rfl) (fun K hK => ?_)
  go_simp
  go_at_call 8
  (with_reducible refine (HDB.out _ (bthen HBE.out hq1) (by have := HLB.out; omega) (by have := HLB.out; omega)).mono ?_)
  rintro e u2 ⟨rfl, hd2⟩
  have hq2 := bthen hq1 hd2
  refine hK.out _ _ (⟨HA.out _ (bthen HBX.out hq2), HZ.out _ (bthen HBX.out hq2)⟩ : (fun w' : World => (w'.cell? ⟨g, 0, none⟩ = some (.slice a.ua a.ru.length a.uc) ∧ w'.cell? ⟨g, 1, none⟩ = some (.string a.rt.n.recv) ∧ w'.cell? ⟨g, 2, none⟩ = some (.slice a.rt.ma a.rt.n.ms.length a.rt.mc) ∧ w'.cell? ⟨g, 3, none⟩ = some (.slice a.rt.ba a.rt.n.bys.length a.rt.bc) ∧ w'.cell? ⟨g, 4, none⟩ = some (.int .i64 a.rt.n.wait) ∧ w'.cell? ⟨g, 5, none⟩ = some (.int .i64 a.rt.n.every) ∧ w'.cell? ⟨g, 6, none⟩ = some (.int .i64 a.rt.n.rep) ∧ w'.cell? ⟨g, 7, none⟩ = some (.slice a.rt.ua a.rt.n.mute.length a.rt.uc) ∧ w'.cell? ⟨g, 8, none⟩ = some (.bool a.rt.n.on) ∧ w'.cell? ⟨g, 9, none⟩ = some (.slice a.rt.ka a.rt.n.kids.length a.rt.kc) ∧ w'.cell? ⟨g, 10, none⟩ = some (.slice a.ra a.re.length a.rc) ∧ w'.cell? ⟨g, 11, none⟩ = some (.slice a.ia a.ih.length a.ic) ∧ w'.cell? ⟨g, 12, none⟩ = some (.slice a.ha a.hr.length a.hc)) ∧ (w'.cell? ⟨g + 1, 0, none⟩ = some (.slice b.ua b.ru.length b.uc) ∧ w'.cell? ⟨g + 1, 1, none⟩ = some (.string b.rt.n.recv) ∧ w'.cell? ⟨g + 1, 2, none⟩ = some (.slice b.rt.ma b.rt.n.ms.length b.rt.mc) ∧ w'.cell? ⟨g + 1, 3, none⟩ = some (.slice b.rt.ba b.rt.n.bys.length b.rt.bc) ∧ w'.cell? ⟨g + 1, 4, none⟩ = some (.int .i64 b.rt.n.wait) ∧ w'.cell? ⟨g + 1, 5, none⟩ = some (.int .i64 b.rt.n.every) ∧ w'.cell? ⟨g + 1, 6, none⟩ = some (.int .i64 b.rt.n.rep) ∧ w'.cell? ⟨g + 1, 7, none⟩ = some (.slice b.rt.ua b.rt.n.mute.length b.rt.uc) ∧ w'.cell? ⟨g + 1, 8, none⟩ = some (.bool b.rt.n.on) ∧ w'.cell? ⟨g + 1, 9, none⟩ = some (.slice b.rt.ka b.rt.n.kids.length b.rt.kc) ∧ w'.cell? ⟨g + 1, 10, none⟩ = some (.slice b.ra b.re.length b.rc) ∧ w'.cell? ⟨g + 1, 11, none⟩ = some (.slice b.ia b.ih.length b.ic) ∧ w'.cell? ⟨g + 1, 12, none⟩ = some (.slice b.ha b.hr.length b.hc))) u2) ?_
  clear hS
  have hS : (fun w' : World => (w'.cell? ⟨g, 0, none⟩ = some (.slice a.ua a.ru.length a.uc) ∧ w'.cell? ⟨g, 1, none⟩ = some (.string a.rt.n.recv) ∧ w'.cell? ⟨g, 2, none⟩ = some (.slice a.rt.ma a.rt.n.ms.length a.rt.mc) ∧ w'.cell? ⟨g, 3, none⟩ = some (.slice a.rt.ba a.rt.n.bys.length a.rt.bc) ∧ w'.cell? ⟨g, 4, none⟩ = some (.int .i64 a.rt.n.wait) ∧ w'.cell? ⟨g, 5, none⟩ = some (.int .i64 a.rt.n.every) ∧ w'.cell? ⟨g, 6, none⟩ = some (.int .i64 a.rt.n.rep) ∧ w'.cell? ⟨g, 7, none⟩ = some (.slice a.rt.ua a.rt.n.mute.length a.rt.uc) ∧ w'.cell? ⟨g, 8, none⟩ = some (.bool a.rt.n.on) ∧ w'.cell? ⟨g, 9, none⟩ = some (.slice a.rt.ka a.rt.n.kids.length a.rt.kc) ∧ w'.cell? ⟨g, 10, none⟩ = some (.slice a.ra a.re.length a.rc) ∧ w'.cell? ⟨g, 11, none⟩ = some (.slice a.ia a.ih.length a.ic) ∧ w'.cell? ⟨g, 12, none⟩ = some (.slice a.ha a.hr.length a.hc)) ∧ (w'.cell? ⟨g + 1, 0, none⟩ = some (.slice b.ua b.ru.length b.uc) ∧ w'.cell? ⟨g + 1, 1, none⟩ = some (.string b.rt.n.recv) ∧ w'.cell? ⟨g + 1, 2, none⟩ = some (.slice b.rt.ma b.rt.n.ms.length b.rt.mc) ∧ w'.cell? ⟨g + 1, 3, none⟩ = some (.slice b.rt.ba b.rt.n.bys.length b.rt.bc) ∧ w'.cell? ⟨g + 1, 4, none⟩ = some (.int .i64 b.rt.n.wait) ∧ w'.cell? ⟨g + 1, 5, none⟩ = some (.int .i64 b.rt.n.every) ∧ w'.cell? ⟨g + 1, 6, none⟩ = some (.int .i64 b.rt.n.rep) ∧ w'.cell? ⟨g + 1, 7, none⟩ = some (.slice b.rt.ua b.rt.n.mute.length b.rt.uc) ∧ w'.cell? ⟨g + 1, 8, none⟩ = some (.bool b.rt.n.on) ∧ w'.cell? ⟨g + 1, 9, none⟩ = some (.slice b.rt.ka b.rt.n.kids.length b.rt.kc) ∧ w'.cell? ⟨g + 1, 10, none⟩ = some (.slice b.ra b.re.length b.rc) ∧ w'.cell? ⟨g + 1, 11, none⟩ = some (.slice b.ia b.ih.length b.ic) ∧ w'.cell? ⟨g + 1, 12, none⟩ = some (.slice b.ha b.hr.length b.hc))) u2 := ⟨HA.out _ (bthen HBX.out hq2), HZ.out _ (bthen HBX.out hq2)⟩
  clear hK
  try simp only [Act.put, List.setIfInBounds_toArray, List.set_cons_zero, List.set_cons_succ]
  refine wpAnyM_pure (v := ?v4R) 4 rfl (by kernel_rfl) (by kernel_rfl) (by kernel_rfl) (by kernel_rfl) (by decide) (fun _ _ _ h => h) (Or.inl ⟨by rfl, ?hy4R⟩) hS ?rest4R
  case hy4R => intro wq hSw; go_simp; (try with_reducible rfl)
  case rest4R =>
  try simp only [Act.put, List.setIfInBounds_toArray, List.set_cons_zero, List.set_cons_succ]
  refine wpAnyM_tail rfl (by decide) (by decide) (by kernel_rfl) ?_
  simp only [List.drop_succ_cons, List.drop_zero]
  clear hS hd0 hd1 hd2 hq1
  have HQ := Lib.hid hq2
  obtain ⟨c0, c1, c2, c3, c4, c5, c6, c7, c8, c9, c10, c11, c12⟩ := HA.out _ (bthen HBX.out hq2)
  obtain ⟨d0, d1, d2, d3, d4, d5, d6, d7, d8, d9, d10, d11, d12⟩ := HZ.out _ (bthen HBX.out hq2)
  clear hq2
  have yb : (Rb != Rb) = false := by cases Rb <;> rfl
  have yb2 : (Rb == Rb) = true := by cases Rb <;> rfl
  go_upto_region 7 with (first
    | (go_at_call 9; (with_reducible refine (HRA.out _ (bthen HBE.out HQ.out)).mono ?_); rintro e u3 ⟨rfl, hd3⟩; have hq3 := bthen HQ.out hd3; clear c0 d0 c1 d1 c2 d2 c3 d3 c4 d4 c5 d5 c6 d6 c7 d7 c8 d8 c9 d9 c10 d10 c11 d11 c12 d12; obtain ⟨d0, d1, d2, d3, d4, d5, d6, d7, d8, d9, d10, d11, d12⟩ := HZ.out _ (bthen HBX.out hq3))
    | (go_at_call 9; (with_reducible refine (HRB.out _ (bthen HBE.out hq3)).mono ?_); rintro e u4 ⟨rfl, hd4⟩; have hq4 := bthen hq3 hd4)
    | (go_at_call 6; refine (HAL.out _).mono ?_; rintro e u5 ⟨rfl, hd5⟩; have hq5 := bthen hq4 hd5))
  clear d0 d1 d2 d3 d4 d5 d6 d7 d8 d9 d10 d11 d12 HRA HRB HDA HDB HAL
  have HQ5 := Lib.hid hq5
  clear hd3 hd4 hd5 hq3 hq4
  have hd0 := bthen hq5 (Below.refl u5.heap.size u5).drew
  have hS : (fun w' : World => (w'.cell? ⟨g, 0, none⟩ = some (.slice a.ua a.ru.length a.uc) ∧ w'.cell? ⟨g, 1, none⟩ = some (.string a.rt.n.recv) ∧ w'.cell? ⟨g, 2, none⟩ = some (.slice a.rt.ma a.rt.n.ms.length a.rt.mc) ∧ w'.cell? ⟨g, 3, none⟩ = some (.slice a.rt.ba a.rt.n.bys.length a.rt.bc) ∧ w'.cell? ⟨g, 4, none⟩ = some (.int .i64 a.rt.n.wait) ∧ w'.cell? ⟨g, 5, none⟩ = some (.int .i64 a.rt.n.every) ∧ w'.cell? ⟨g, 6, none⟩ = some (.int .i64 a.rt.n.rep) ∧ w'.cell? ⟨g, 7, none⟩ = some (.slice a.rt.ua a.rt.n.mute.length a.rt.uc) ∧ w'.cell? ⟨g, 8, none⟩ = some (.bool a.rt.n.on) ∧ w'.cell? ⟨g, 9, none⟩ = some (.slice a.rt.ka a.rt.n.kids.length a.rt.kc) ∧ w'.cell? ⟨g, 10, none⟩ = some (.slice a.ra a.re.length a.rc) ∧ w'.cell? ⟨g, 11, none⟩ = some (.slice a.ia a.ih.length a.ic) ∧ w'.cell? ⟨g, 12, none⟩ = some (.slice a.ha a.hr.length a.hc)) ∧ (w'.cell? ⟨g + 1, 0, none⟩ = some (.slice b.ua b.ru.length b.uc) ∧ w'.cell? ⟨g + 1, 1, none⟩ = some (.string b.rt.n.recv) ∧ w'.cell? ⟨g + 1, 2, none⟩ = some (.slice b.rt.ma b.rt.n.ms.length b.rt.mc) ∧ w'.cell? ⟨g + 1, 3, none⟩ = some (.slice b.rt.ba b.rt.n.bys.length b.rt.bc) ∧ w'.cell? ⟨g + 1, 4, none⟩ = some (.int .i64 b.rt.n.wait) ∧ w'.cell? ⟨g + 1, 5, none⟩ = some (.int .i64 b.rt.n.every) ∧ w'.cell? ⟨g + 1, 6, none⟩ = some (.int .i64 b.rt.n.rep) ∧ w'.cell? ⟨g + 1, 7, none⟩ = some (.slice b.rt.ua b.rt.n.mute.length b.rt.uc) ∧ w'.cell? ⟨g + 1, 8, none⟩ = some (.bool b.rt.n.on) ∧ w'.cell? ⟨g + 1, 9, none⟩ = some (.slice b.rt.ka b.rt.n.kids.length b.rt.kc) ∧ w'.cell? ⟨g + 1, 10, none⟩ = some (.slice b.ra b.re.length b.rc) ∧ w'.cell? ⟨g + 1, 11, none⟩ = some (.slice b.ia b.ih.length b.ic) ∧ w'.cell? ⟨g + 1, 12, none⟩ = some (.slice b.ha b.hr.length b.hc))) u5.drew := ⟨HA.out _ (bthen HBX.out hd0), HZ.out _ (bthen HBX.out hd0)⟩
  clear hq5
  clear hS hd0
  go_quiet (fail)
  have HQ6 := Lib.hid (below_drewN HQ5.out nq)
  obtain ⟨c0, c1, c2, c3, c4, c5, c6, c7, c8, c9, c10, c11, c12⟩ := HA.out _ (bthen HBX.out HQ6.out)
  obtain ⟨d0, d1, d2, d3, d4, d5, d6, d7, d8, d9, d10, d11, d12⟩ := HZ.out _ (bthen HBX.out HQ6.out)
  go_upto_region 10 with (first
    | (go_at_call 12; (with_reducible refine (HSA.out _ (bthen HBE.out HQ6.out)).mono ?_); rintro e v4 ⟨rfl, hv4⟩; have hp4 := bthen HQ6.out hv4; clear c0 d0 c1 d1 c2 d2 c3 d3 c4 d4 c5 d5 c6 d6 c7 d7 c8 d8 c9 d9 c10 d10 c11 d11 c12 d12; obtain ⟨c0, c1, c2, c3, c4, c5, c6, c7, c8, c9, c10, c11, c12⟩ := HA.out _ (bthen HBX.out hp4))
    | (go_at_call 12; (with_reducible refine (HSS.out _ (bthen HBE.out hp4)).mono ?_); rintro e v5 ⟨rfl, hv5⟩; have hp5 := bthen hp4 hv5))
  clear c0 c1 c2 c3 c4 c5 c6 c7 c8 c9 c10 c11 c12
  obtain ⟨e0, e1, e2, e3, e4, e5, e6, e7, e8, e9, e10, e11, e12⟩ := HNC.out _ hp5
  go_wp2_with fail
  go_ret
  exact ⟨rfl, bthen HBE.out hp5⟩
end Go.Proofs.YtmhekhilgllciaaGreat
