/- The contract of the document's own Normal of layer 10. -/
import Derived.Test.YtmhekhilgllciaaGreatMg15
import Derived.Test.YtmhekhilgllciaaGreatMg16
import Derived.Test.YtmhekhilgllciaaGreatMg8
import Derived.Test.YtmhekhilgllciaaGreatMg4
import Derived.Test.YtmhekhilgllciaaGreatMg9
namespace Go.Proofs.YtmhekhilgllciaaGreat
open Go.RowKit Go.Lib Go.Sort

def NormD (B0 : Nat) (k : CfA) (w : World) (e : Ending) (w' : World) : Prop :=
  Below w.heap.size w w' ∧ ∃ d : CfA, e = .returned (.agg (kCells d)) ∧ (∀ W, Keep B0 w w' W → d.ok W) ∧ NormDoc k d
set_option maxHeartbeats 51200000 in
set_option maxRecDepth 100000 in
theorem rNormal10_any (k : CfA) (w : World) (B0 : Nat) (hB0 : B0 ≤ w.heap.size) (h0 : ∀ W, Below B0 w W → k.ok W) (hc : cfgC k = true) : Calls Tryz.prog 11 #[.agg (kCells k)] w (NormD B0 k w) := by
  obtain ⟨Q, hQ⟩ : ∃ Q, Q = NormD B0 k w := ⟨_, rfl⟩
  have HQ := Lib.hid hQ
  rw [← hQ]
  obtain ⟨iR, hiR, hR0, hR1, hR2⟩ := info_partsRu Tryz.infoRu
  obtain ⟨iH, hiH, hH0, hH1, hH2⟩ := info_partsH Tryz.infoH
  obtain ⟨iI, hiI, hI0, hI1, hI2⟩ := info_partsIn Tryz.infoIn
  obtain ⟨iS, hiS, hS0, hS1, hS2⟩ := info_parts Tryz.infoS
  have h : k.ok w := h0 w (Below.refl _ _)
  have hb1 := (Below.refl w.heap.size w).alloc (Nat.le_refl _) (.cells (kCells k) 31)
  obtain ⟨gR, _, _, gI, gH, _, gL⟩ := cfgC_good hc
  have hcl := cfgC_len hc
  have hx1 : k.ru.all RuA.good = true := List.all_eq_true.2 gR
  have hx2 : k.hr.all HrA.good = true := List.all_eq_true.2 gH
  have H1 := Lib.hid (fun W (hW : Below w.heap.size w W) => (rRules_any k.ua k.uc k.ru W (h.1.keep hW) (by omega)).mono fun e w' hh => show ∃ v B, e = .returned (.tuple #[v, .bool B]) ∧ Below W.heap.size W w' ∧ OwnS 9 w' W.heap.size v (k.ru.map RuA.name) from by
    obtain ⟨v, he, hb, ho⟩ := hh
    exact ⟨v, _, he, hb, ho hx1⟩)
  have H2 := Lib.hid (fun W (hW : Below w.heap.size w W) => (rHours_any k.ha k.hc k.hr W (h.2.2.2.2.keep hW) (by omega)).mono fun e w' hh => show ∃ v B, e = .returned (.tuple #[v, .bool B]) ∧ Below W.heap.size W w' ∧ OwnS 9 w' W.heap.size v (k.hr.map HrA.n) from by
    obtain ⟨v, he, hb, ho⟩ := hh
    exact ⟨v, _, he, hb, ho hx2⟩)
  have H3 := Lib.hid (fun W (hW : Below w.heap.size w W) => rPlaces_any k.ra k.rc k.re W (h.2.2.1.call hW) (by omega))
  have HRR := Lib.hid h.1
  have HRE := Lib.hid h.2.2.1
  have HRI := Lib.hid h.2.2.2.1
  have HRH := Lib.hid h.2.2.2.2
  have HGI := Lib.hid gI
  have HSR := Lib.hid (show ∀ s ∈ k.ru.map RuA.name, s.size ≤ maxLen from fun s hs => by
    obtain ⟨x, hx, rfl⟩ := List.mem_map.1 hs
    exact (h.1.2.2.1 x hx).2.1)
  have HSH := Lib.hid (show ∀ s ∈ k.hr.map HrA.n, s.size ≤ maxLen from fun s hs => by
    obtain ⟨x, hx, rfl⟩ := List.mem_map.1 hs
    exact (h.2.2.2.2.2.2.1 x hx).1)
  have HSI := Lib.hid (show ∀ s ∈ k.ih.map inhT, s.size ≤ maxLen from fun s hs => by
    obtain ⟨x, hx, rfl⟩ := List.mem_map.1 hs
    exact bindS_max _)
  obtain ⟨l1, l2, l3, l4, _⟩ := hcl
  obtain ⟨PR, hPR⟩ : ∃ p, plcN (k.ru.map RuA.name) k.ru.length = p := ⟨_, rfl⟩
  obtain ⟨PS, hPS⟩ : ∃ p, plcN k.re k.re.length = p := ⟨_, rfl⟩
  obtain ⟨PH, hPH⟩ : ∃ p, plcN (k.hr.map HrA.n) k.hr.length = p := ⟨_, rfl⟩
  obtain ⟨PI, hPI⟩ : ∃ p, plcN (k.ih.map inhT) k.ih.length = p := ⟨_, rfl⟩
  have HP1 := Lib.hid (fun a c W (hs : HasStrs W a c (k.ru.map RuA.name)) => show Calls Tryz.prog 48 #[.slice a k.ru.length c] W (fun e w' => ∃ v, e = .returned v ∧ OwnX 3 1 encN w' W.heap.size v PR ∧ Below W.heap.size W w') from by
    have := rPlaces_any a c (k.ru.map RuA.name) W hs (by rw [List.length_map]; omega)
    unfold PlcP at this
    rw [List.length_map, hPR] at this
    exact this)
  have HP2 := Lib.hid (fun a c W (hs : HasStrs W a c (k.hr.map HrA.n)) => show Calls Tryz.prog 48 #[.slice a k.hr.length c] W (fun e w' => ∃ v, e = .returned v ∧ OwnX 3 1 encN w' W.heap.size v PH ∧ Below W.heap.size W w') from by
    have := rPlaces_any a c (k.hr.map HrA.n) W hs (by rw [List.length_map]; omega)
    unfold PlcP at this
    rw [List.length_map, hPH] at this
    exact this)
  have HP3 := Lib.hid (fun a c W (hs : HasStrs W a c (k.ih.map inhT)) => show Calls Tryz.prog 48 #[.slice a k.ih.length c] W (fun e w' => ∃ v, e = .returned v ∧ OwnX 3 1 encN w' W.heap.size v PI ∧ Below W.heap.size W w') from by
    have := rPlaces_any a c (k.ih.map inhT) W hs (by rw [List.length_map]; omega)
    unfold PlcP at this
    rw [List.length_map, hPI] at this
    exact this)
  unfold PlcP at H3
  rw [hPS] at H3
  have HLR := Lib.hid (And.intro (show ∀ i ∈ PR, i < k.ru.length from fun i hi => plc_lt' (by rw [hPR]; exact hi)) (show PR.length ≤ 16 from by rw [← hPR]; exact Nat.le_trans (plcN_len _ _) l1))
  have HLS := Lib.hid (And.intro (show ∀ i ∈ PS, i < k.re.length from fun i hi => plc_lt' (by rw [hPS]; exact hi)) (show PS.length ≤ 16 from by rw [← hPS]; exact Nat.le_trans (plcN_len _ _) l2))
  have HLH := Lib.hid (And.intro (show ∀ i ∈ PH, i < k.hr.length from fun i hi => plc_lt' (by rw [hPH]; exact hi)) (show PH.length ≤ 8 from by rw [← hPH]; exact Nat.le_trans (plcN_len _ _) l4))
  have HLI := Lib.hid (And.intro (show ∀ i ∈ PI, i < k.ih.length from fun i hi => plc_lt' (by rw [hPI]; exact hi)) (show PI.length ≤ 8 from by rw [← hPI]; exact Nat.le_trans (plcN_len _ _) l3))
  have HPK := Lib.hid (And.intro (show pick default k.ru PR = pkR k.ru from by rw [← hPR]; rfl) (And.intro (show pick ⟨#[]⟩ k.re PS = pkS k.re from by rw [← hPS]; rfl) (And.intro (show pick default k.hr PH = pkH k.hr from by rw [← hPH]; rfl) (show pick default k.ih PI = pkI k.ih from by rw [← hPI]; rfl))))
  have HNI := Lib.hid (fun (d : CfA) => norm_is (d := d) hc)
  have HK := Lib.hid h0
  have HB0 := Lib.hid hB0
  have hA := Blk.new w 31 (kCells k)
  clear h h0 hB0 hc gR gI gH gL hx1 hx2 hPR hPS hPH hPI hQ
  obtain ⟨ru, ua, uc, ⟨n, ma, mc, ba, bc, mu, mv, ka, kc⟩, re, ra, rc, ih, ia, ic, hr, ha, hc⟩ := k
  simp only [kCells] at hb1 hA ⊢
  simp only at *
  have hb2 := balR (o := .cells #[.slice none 0 0, .string ⟨#[]⟩, .slice none 0 0, .slice none 0 0, .int .i64 0, .int .i64 0, .int .i64 0, .slice none 0 0, .bool false, .slice none 0 0, .slice none 0 0, .slice none 0 0, .slice none 0 0] 31) hb1
  have hb3 := balR (o := .cells #[.slice none 0 0, .string n.recv, .slice ma n.ms.length mc, .slice ba n.bys.length bc, .int .i64 n.wait, .int .i64 n.every, .int .i64 n.rep, .slice mu n.mute.length mv, .bool n.on, .slice ka n.kids.length kc, .slice none 0 0, .slice none 0 0, .slice none 0 0] 31) hb2
  have hA2 := (hA.alloc (.cells #[.slice none 0 0, .string ⟨#[]⟩, .slice none 0 0, .slice none 0 0, .int .i64 0, .int .i64 0, .int .i64 0, .slice none 0 0, .bool false, .slice none 0 0, .slice none 0 0, .slice none 0 0, .slice none 0 0] 31)).alloc (.cells #[.slice none 0 0, .string n.recv, .slice ma n.ms.length mc, .slice ba n.bys.length bc, .int .i64 n.wait, .int .i64 n.every, .int .i64 n.rep, .slice mu n.mute.length mv, .bool n.on, .slice ka n.kids.length kc, .slice none 0 0, .slice none 0 0, .slice none 0 0] 31)
  have hZ := (nbR w (.cells #[.slice ua ru.length uc, .string n.recv, .slice ma n.ms.length mc, .slice ba n.bys.length bc, .int .i64 n.wait, .int .i64 n.every, .int .i64 n.rep, .slice mu n.mute.length mv, .bool n.on, .slice ka n.kids.length kc, .slice ra re.length rc, .slice ia ih.length ic, .slice ha hr.length hc] 31) #[.slice none 0 0, .string ⟨#[]⟩, .slice none 0 0, .slice none 0 0, .int .i64 0, .int .i64 0, .int .i64 0, .slice none 0 0, .bool false, .slice none 0 0, .slice none 0 0, .slice none 0 0, .slice none 0 0] 31).alloc (.cells #[.slice none 0 0, .string n.recv, .slice ma n.ms.length mc, .slice ba n.bys.length bc, .int .i64 n.wait, .int .i64 n.every, .int .i64 n.rep, .slice mu n.mute.length mv, .bool n.on, .slice ka n.kids.length kc, .slice none 0 0, .slice none 0 0, .slice none 0 0] 31)
  have hO := nbR (w.alloc (.cells #[.slice ua ru.length uc, .string n.recv, .slice ma n.ms.length mc, .slice ba n.bys.length bc, .int .i64 n.wait, .int .i64 n.every, .int .i64 n.rep, .slice mu n.mute.length mv, .bool n.on, .slice ka n.kids.length kc, .slice ra re.length rc, .slice ia ih.length ic, .slice ha hr.length hc] 31)) (.cells #[.slice none 0 0, .string ⟨#[]⟩, .slice none 0 0, .slice none 0 0, .int .i64 0, .int .i64 0, .int .i64 0, .slice none 0 0, .bool false, .slice none 0 0, .slice none 0 0, .slice none 0 0, .slice none 0 0] 31) #[.slice none 0 0, .string n.recv, .slice ma n.ms.length mc, .slice ba n.bys.length bc, .int .i64 n.wait, .int .i64 n.every, .int .i64 n.rep, .slice mu n.mute.length mv, .bool n.on, .slice ka n.kids.length kc, .slice none 0 0, .slice none 0 0, .slice none 0 0] 31
  have hsz1 : (w.alloc (.cells #[.slice ua ru.length uc, .string n.recv, .slice ma n.ms.length mc, .slice ba n.bys.length bc, .int .i64 n.wait, .int .i64 n.every, .int .i64 n.rep, .slice mu n.mute.length mv, .bool n.on, .slice ka n.kids.length kc, .slice ra re.length rc, .slice ia ih.length ic, .slice ha hr.length hc] 31)).heap.size = w.heap.size + 1 := by simp
  rw [hsz1] at hO
  have c0a := (hA.alloc (.cells #[.slice none 0 0, .string ⟨#[]⟩, .slice none 0 0, .slice none 0 0, .int .i64 0, .int .i64 0, .int .i64 0, .slice none 0 0, .bool false, .slice none 0 0, .slice none 0 0, .slice none 0 0, .slice none 0 0] 31)).cells13
  obtain ⟨c0, c1, c2, c3, c4, c5, c6, c7, c8, c9, c10, c11, c12⟩ := c0a
  clear hA hb1 hb2 hsz1
  go_enter Tryz.func11, Tryz.ntmps11
  go_upto_region 2 with fail
  clear c0 c1 c2 c3 c4 c5 c6 c7 c8 c9 c10 c11 c12
  generalize ((w.alloc (.cells #[.slice ua ru.length uc, .string n.recv, .slice ma n.ms.length mc, .slice ba n.bys.length bc, .int .i64 n.wait, .int .i64 n.every, .int .i64 n.rep, .slice mu n.mute.length mv, .bool n.on, .slice ka n.kids.length kc, .slice ra re.length rc, .slice ia ih.length ic, .slice ha hr.length hc] 31)).alloc (.cells #[.slice none 0 0, .string ⟨#[]⟩, .slice none 0 0, .slice none 0 0, .int .i64 0, .int .i64 0, .int .i64 0, .slice none 0 0, .bool false, .slice none 0 0, .slice none 0 0, .slice none 0 0, .slice none 0 0] 31)).alloc (.cells #[.slice none 0 0, .string n.recv, .slice ma n.ms.length mc, .slice ba n.bys.length bc, .int .i64 n.wait, .int .i64 n.every, .int .i64 n.rep, .slice mu n.mute.length mv, .bool n.on, .slice ka n.kids.length kc, .slice none 0 0, .slice none 0 0, .slice none 0 0] 31) = wx at *
  obtain ⟨g, hg⟩ : ∃ g, w.heap.size = g := ⟨_, rfl⟩
  have HG := Lib.hid (show w.heap.size ≤ g from by omega)
  have HG2 := Lib.hid hg
  have hs0 : NSt w g (g + 1 + 1) #[.slice ua ru.length uc, .string n.recv, .slice ma n.ms.length mc, .slice ba n.bys.length bc, .int .i64 n.wait, .int .i64 n.every, .int .i64 n.rep, .slice mu n.mute.length mv, .bool n.on, .slice ka n.kids.length kc, .slice ra re.length rc, .slice ia ih.length ic, .slice ha hr.length hc] #[.slice none 0 0, .string n.recv, .slice ma n.ms.length mc, .slice ba n.bys.length bc, .int .i64 n.wait, .int .i64 n.every, .int .i64 n.rep, .slice mu n.mute.length mv, .bool n.on, .slice ka n.kids.length kc, .slice none 0 0, .slice none 0 0, .slice none 0 0] wx wx := by
    rw [hg] at hA2 hO
    exact ⟨hb3, hA2, hO, But.refl _ _, hA2.lt, hO.lt, by omega, by omega⟩
  rw [hg] at hZ ⊢
  have HZ0 := Lib.hid hZ
  clear hg hA2 hO hZ hb3
  obtain ⟨c0, c1, c2, c3, c4, c5, c6, c7, c8, c9, c10, c11, c12⟩ := hs0.ka.cells13
  have HS0 := Lib.hid hs0
  clear hs0
  go_upto_region 3 with (go_at_call 25; refine (H1.out _ HS0.out.below).mono ?_; rintro e wu1 ⟨v, B, rfl, hbu1, hou1⟩; obtain ⟨na0, nc0, rfl, hns0⟩ := hou1.strs HSR.out)
  clear c0 c1 c2 c3 c4 c5 c6 c7 c8 c9 c10 c11 c12
  have HU1 := Lib.hid hbu1
  have HN1 := Lib.hid hns0
  clear hbu1 hou1 hns0
  go_upto_block 0 with (go_at_call 48; refine (HP1.out na0 nc0 wu1 HN1.out).mono ?_; rintro e wa1 ⟨v, rfl, hop1, hbp1⟩; obtain ⟨pa1, pc1, rfl, hpl1, hpm1⟩ := hop1.form)
  unfold maxLen at hpm1
  have HST1 := Lib.hid (HS0.out.start (bthen HU1.out hbp1))
  have HPS1 := Lib.hid hop1
  have HGP1 := Lib.hid (show g + 1 + 1 < wu1.heap.size from Nat.lt_of_lt_of_le HS0.out.l2 HU1.out.size)
  have HZ1 := Lib.hid (HZ0.out.call (bthen HU1.out hbp1))
  clear hop1 hbp1
  go_wp2_with fail
  go_loopg [29, 7] PR.length (fun gg iv _ wr => ∃ (j : Nat) (V : Value), j + gg = PR.length ∧ iv = .int .i64 (j : Int) ∧ NSt w g (g + 1 + 1) #[.slice ua ru.length uc, .string n.recv, .slice ma n.ms.length mc, .slice ba n.bys.length bc, .int .i64 n.wait, .int .i64 n.every, .int .i64 n.rep, .slice mu n.mute.length mv, .bool n.on, .slice ka n.kids.length kc, .slice ra re.length rc, .slice ia ih.length ic, .slice ha hr.length hc] #[V, .string n.recv, .slice ma n.ms.length mc, .slice ba n.bys.length bc, .int .i64 n.wait, .int .i64 n.every, .int .i64 n.rep, .slice mu n.mute.length mv, .bool n.on, .slice ka n.kids.length kc, .slice none 0 0, .slice none 0 0, .slice none 0 0] wa1 wr ∧ OwnX 45 8 RuA.enc wr wa1.heap.size V (pick default ru (PR.take j)))
  case atStart => exact ⟨0, .slice none 0 0, by omega, rfl, HST1.out, OwnX.nil _ _ _⟩
  case round =>
    obtain ⟨j, V, hjg, rfl, hst, hown⟩ := hrel
    obtain ⟨a1, c1, rfl, hvl, hvm⟩ := hown.form
    cases gk with
    | succ gg =>
      have hjl : j < PR.length := by omega
      obtain ⟨gp, rfl⟩ := some_of HPS1.out (by omega)
      have hps := hst.but.ownX HGP1.out HPS1.out
      have hcp := ints_at hps j hjl
      have hpx := HLR.out.1 PR[j] (List.getElem_mem hjl)
      have hpick : pick default ru (PR.take (j + 1)) = pick default ru (PR.take j) ++ [ru[PR[j]]] := by
        rw [List.take_succ_eq_append_getElem hjl, pick_snoc _ _ _ _ hpx]
      have hplen : (pick default ru (PR.take j)).length ≤ 16 := by
        have := HLR.out.2
        unfold pick
        rw [List.length_map, List.length_take]; omega
      have HPICK := Lib.hid hpick
      clear hpick hps hvl hvm
      generalize PR[j] = i at *
      generalize pick default ru (PR.take j) = M at *
      go_upto_region 6 with fail
      clear hcp
      obtain ⟨b, off, rfl, _, hcell⟩ := HasRow.place HRR.out i hpx
      have hy0 := hcell 0 _ rfl
      have hy1 := hcell 1 _ rfl
      have hy2 := hcell 2 _ rfl
      have hy3 := hcell 3 _ rfl
      have hy4 := hcell 4 _ rfl
      have hy5 := hcell 5 _ rfl
      have hy6 := hcell 6 _ rfl
      have hy7 := hcell 7 _ rfl
      obtain ⟨x, hx⟩ : ∃ x, ru[i] = x := ⟨_, rfl⟩
      have hx0 := cellL hst.below (hcell 0 _ rfl)
      have hx1 := cellL hst.below (hcell 1 _ rfl)
      have hx2 := cellL hst.below (hcell 2 _ rfl)
      have hx3 := cellL hst.below (hcell 3 _ rfl)
      have hx4 := cellL hst.below (hcell 4 _ rfl)
      have hx5 := cellL hst.below (hcell 5 _ rfl)
      have hx6 := cellL hst.below (hcell 6 _ rfl)
      have hx7 := cellL hst.below (hcell 7 _ rfl)
      rw [Nat.add_zero] at hx0
      rw [hx] at HPICK
      rw [Nat.add_zero] at hy0
      simp only [hx] at hy0 hy1 hy2 hy3 hy4 hy5 hy6 hy7
      have HX0 := Lib.hid hy0
      have HX1 := Lib.hid hy1
      have HX2 := Lib.hid hy2
      have HX3 := Lib.hid hy3
      have HX4 := Lib.hid hy4
      have HX5 := Lib.hid hy5
      have HX6 := Lib.hid hy6
      have HX7 := Lib.hid hy7
      clear hy0 hy1 hy2 hy3 hy4 hy5 hy6 hy7
      simp only [hx] at hx0 hx1 hx2 hx3 hx4 hx5 hx6 hx7
      clear hcell hx
      have hS : (fun w' : World => w'.cell? ⟨g + 1 + 1, 0, none⟩ = some (.slice a1 M.length c1) ∧ w'.cell? ⟨g, 0, none⟩ = some (.slice (some ⟨b, off, none⟩) ru.length uc) ∧ w'.cell? ⟨b, off + i * 8, none⟩ = some (.string x.r.name) ∧ w'.cell? ⟨b, off + i * 8 + 1, none⟩ = some (.string x.r.metric) ∧ w'.cell? ⟨b, off + i * 8 + 2, none⟩ = some (.int .i64 x.r.how) ∧ w'.cell? ⟨b, off + i * 8 + 3, none⟩ = some (.int .i64 x.r.limit) ∧ w'.cell? ⟨b, off + i * 8 + 4, none⟩ = some (.int .i64 x.r.fr) ∧ w'.cell? ⟨b, off + i * 8 + 5, none⟩ = some (.int .i64 x.r.keep) ∧ w'.cell? ⟨b, off + i * 8 + 6, none⟩ = some (.int .i64 x.r.tries) ∧ w'.cell? ⟨b, off + i * 8 + 7, none⟩ = some (.slice x.a x.r.labels.length x.c)) wr.drew := ⟨hst.out.cell 0, hst.ka.cell 0, hx0, hx1, hx2, hx3, hx4, hx5, hx6, hx7⟩
      have q1 : decide (i < ru.length) = true := decide_eq_true hpx
      have hst0 : NSt w g (g + 1 + 1) _ _ wa1 wr.drew := hst.call (Below.refl _ _).drew
      have hown0 := hown.call (Below.refl wr.heap.size wr).drew
      have HWA := Lib.hid (show w.heap.size ≤ wa1.heap.size from HST1.out.below.size)
      have hpx2 := HRR.out.1
      have hpx3 := HRR.out.2.1
      unfold maxLen at hpx3
      clear hst hown hx0 hx1 hx2 hx3 hx4 hx5 hx6 hx7
      refine wp_region_marked (fun w' : World => w'.cell? ⟨g + 1 + 1, 0, none⟩ = some (.slice a1 M.length c1) ∧ w'.cell? ⟨g, 0, none⟩ = some (.slice (some ⟨b, off, none⟩) ru.length uc) ∧ w'.cell? ⟨b, off + i * 8, none⟩ = some (.string x.r.name) ∧ w'.cell? ⟨b, off + i * 8 + 1, none⟩ = some (.string x.r.metric) ∧ w'.cell? ⟨b, off + i * 8 + 2, none⟩ = some (.int .i64 x.r.how) ∧ w'.cell? ⟨b, off + i * 8 + 3, none⟩ = some (.int .i64 x.r.limit) ∧ w'.cell? ⟨b, off + i * 8 + 4, none⟩ = some (.int .i64 x.r.fr) ∧ w'.cell? ⟨b, off + i * 8 + 5, none⟩ = some (.int .i64 x.r.keep) ∧ w'.cell? ⟨b, off + i * 8 + 6, none⟩ = some (.int .i64 x.r.tries) ∧ w'.cell? ⟨b, off + i * 8 + 7, none⟩ = some (.slice x.a x.r.labels.length x.c)) 10 (by kernel_rfl) ?_
      refine wpAnyM_pure (v := ?v0L1) 0 rfl (by kernel_rfl) (by kernel_rfl) (by kernel_rfl) (by kernel_rfl) (by decide) (fun _ _ _ h => h) (Or.inl ⟨by rfl, ?hy0L1⟩) hS ?rest0L1
      case hy0L1 => intro wq hSw; go_simp; (try with_reducible rfl)
      case rest0L1 =>
      try simp only [Act.put, List.setIfInBounds_toArray, List.set_cons_zero, List.set_cons_succ]
      refine wpAnyM_loadP [] (v := ?v1L1) 1 rfl (by kernel_rfl) (by kernel_rfl) (by kernel_rfl) (by kernel_rfl) (by decide) (by kernel_rfl) (fun _ _ _ h => h) (Or.inl ⟨by rfl, ?hy1L1⟩) hS ?rest1L1
      case hy1L1 => intro wq hSw; (try dsimp only at hSw); obtain ⟨s0, s1, s2, s3, s4, s5, s6, s7, s8, s9⟩ := hSw; go_simp; (try with_reducible rfl)
      case rest1L1 =>
      try simp only [Act.put, List.setIfInBounds_toArray, List.set_cons_zero, List.set_cons_succ]
      refine wpAnyM_pure (v := ?v2L1) 2 rfl (by kernel_rfl) (by kernel_rfl) (by kernel_rfl) (by kernel_rfl) (by decide) (fun _ _ _ h => h) (Or.inl ⟨by rfl, ?hy2L1⟩) hS ?rest2L1
      case hy2L1 => intro wq hSw; go_simp; (try with_reducible rfl)
      case rest2L1 =>
      try simp only [Act.put, List.setIfInBounds_toArray, List.set_cons_zero, List.set_cons_succ]
      refine wpAnyM_loadP [] (v := ?v3L1) 3 rfl (by kernel_rfl) (by kernel_rfl) (by kernel_rfl) (by kernel_rfl) (by decide) (by kernel_rfl) (fun _ _ _ h => h) (Or.inl ⟨by rfl, ?hy3L1⟩) hS ?rest3L1
      case hy3L1 => intro wq hSw; (try dsimp only at hSw); obtain ⟨s0, s1, s2, s3, s4, s5, s6, s7, s8, s9⟩ := hSw; go_simp; (try with_reducible rfl)
      case rest3L1 =>
      try simp only [Act.put, List.setIfInBounds_toArray, List.set_cons_zero, List.set_cons_succ]
      refine wpAnyM_pure (v := ?v4L1) 4 rfl (by kernel_rfl) (by kernel_rfl) (by kernel_rfl) (by kernel_rfl) (by decide) (fun _ _ _ h => h) (Or.inl ⟨by rfl, ?hy4L1⟩) hS ?rest4L1
      case hy4L1 => intro wq hSw; go_simp; (try with_reducible rfl)
      case rest4L1 =>
      try simp only [Act.put, List.setIfInBounds_toArray, List.set_cons_zero, List.set_cons_succ]
      refine wpAnyM_pure (v := ?v5L1) 5 rfl (by kernel_rfl) (by kernel_rfl) (by kernel_rfl) (by kernel_rfl) (by decide) (fun _ _ _ h => h) (Or.inl ⟨by rfl, ?hy5L1⟩) hS ?rest5L1
      case hy5L1 => intro wq hSw; go_simp; (try with_reducible rfl)
      case rest5L1 =>
      try simp only [Act.put, List.setIfInBounds_toArray, List.set_cons_zero, List.set_cons_succ]
      refine wpAnyM_loadP [] (v := ?v6L1) 6 rfl (by kernel_rfl) (by kernel_rfl) (by kernel_rfl) (by kernel_rfl) (by decide) (by kernel_rfl) (fun _ _ _ h => h) (Or.inl ⟨by rfl, ?hy6L1⟩) hS ?rest6L1
      case hy6L1 => intro wq hSw; (try dsimp only at hSw); obtain ⟨s0, s1, s2, s3, s4, s5, s6, s7, s8, s9⟩ := hSw; go_simp; (try with_reducible rfl)
      case rest6L1 =>
      try simp only [Act.put, List.setIfInBounds_toArray, List.set_cons_zero, List.set_cons_succ]
      refine wpAnyM_one 7 rfl (by kernel_rfl) (fun K hK => ?_)
      go_simp
      have hnb := (Below.refl wr.drew.heap.size wr.drew).alloc (Nat.le_refl _) (.cells #[.string x.r.name, .string x.r.metric, .int .i64 x.r.how, .int .i64 x.r.limit, .int .i64 x.r.fr, .int .i64 x.r.keep, .int .i64 x.r.tries, .slice x.a x.r.labels.length x.c] 45)
      have hBn := Blk.new wr.drew 45 #[.string x.r.name, .string x.r.metric, .int .i64 x.r.how, .int .i64 x.r.limit, .int .i64 x.r.fr, .int .i64 x.r.keep, .int .i64 x.r.tries, .slice x.a x.r.labels.length x.c]
      have hst1 := hst0.call hnb
      have hown1 := hown0.call hnb
      have hS1 : (fun w' : World => w'.cell? ⟨g + 1 + 1, 0, none⟩ = some (.slice a1 M.length c1) ∧ w'.cell? ⟨g, 0, none⟩ = some (.slice (some ⟨b, off, none⟩) ru.length uc) ∧ w'.cell? ⟨b, off + i * 8, none⟩ = some (.string x.r.name) ∧ w'.cell? ⟨b, off + i * 8 + 1, none⟩ = some (.string x.r.metric) ∧ w'.cell? ⟨b, off + i * 8 + 2, none⟩ = some (.int .i64 x.r.how) ∧ w'.cell? ⟨b, off + i * 8 + 3, none⟩ = some (.int .i64 x.r.limit) ∧ w'.cell? ⟨b, off + i * 8 + 4, none⟩ = some (.int .i64 x.r.fr) ∧ w'.cell? ⟨b, off + i * 8 + 5, none⟩ = some (.int .i64 x.r.keep) ∧ w'.cell? ⟨b, off + i * 8 + 6, none⟩ = some (.int .i64 x.r.tries) ∧ w'.cell? ⟨b, off + i * 8 + 7, none⟩ = some (.slice x.a x.r.labels.length x.c)) _ := ⟨hst1.out.cell 0, hst1.ka.cell 0, cellL hnb hS.2.2.1, cellL hnb hS.2.2.2.1, cellL hnb hS.2.2.2.2.1, cellL hnb hS.2.2.2.2.2.1, cellL hnb hS.2.2.2.2.2.2.1, cellL hnb hS.2.2.2.2.2.2.2.1, cellL hnb hS.2.2.2.2.2.2.2.2.1, cellL hnb hS.2.2.2.2.2.2.2.2.2⟩
      have hsrc := src_oneX (P := Tryz.prog) (enc := RuA.enc) (k := 8) (x := x) Tryz.underlying22 RuA.enc_len RuA.enc_one hBn rfl
      refine hK.out _ _ hS1 ?_
      clear hS
      have hS := hS1
      clear hS1
      clear hK
      try simp only [Act.put, List.setIfInBounds_toArray, List.set_cons_zero, List.set_cons_succ]
      refine wpAnyM_one 8 rfl (by kernel_rfl) (fun K hK => ?_)
      refine step_appX _ (by rfl) (.tmp 34) (.tmp 40) 22 (by rfl) wa1.heap.size 45 iR (.agg #[.string ⟨#[]⟩, .string ⟨#[]⟩, .int .i64 0, .int .i64 0, .int .i64 0, .int .i64 0, .int .i64 0, .slice none 0 0]) 96 Tryz.underlying22 hiR hR0 hR1 hR2 rfl (by omega) (.slice a1 M.length c1) M (by rfl) hown1 (.slice (some ⟨wr.drew.heap.size, 0, none⟩) 1 1) 1 [x] rfl (by rfl) hsrc (by simp only [List.length_cons, List.length_nil]; omega) hst1.but.size ?_
      intro na nn nc w8 hnn ho8 hg8
      have hst8 := hst1.grown hown1 hg8 HWA.out
      have hS1 : (fun w' : World => w'.cell? ⟨g + 1 + 1, 0, none⟩ = some (.slice a1 M.length c1) ∧ w'.cell? ⟨g, 0, none⟩ = some (.slice (some ⟨b, off, none⟩) ru.length uc) ∧ w'.cell? ⟨b, off + i * 8, none⟩ = some (.string x.r.name) ∧ w'.cell? ⟨b, off + i * 8 + 1, none⟩ = some (.string x.r.metric) ∧ w'.cell? ⟨b, off + i * 8 + 2, none⟩ = some (.int .i64 x.r.how) ∧ w'.cell? ⟨b, off + i * 8 + 3, none⟩ = some (.int .i64 x.r.limit) ∧ w'.cell? ⟨b, off + i * 8 + 4, none⟩ = some (.int .i64 x.r.fr) ∧ w'.cell? ⟨b, off + i * 8 + 5, none⟩ = some (.int .i64 x.r.keep) ∧ w'.cell? ⟨b, off + i * 8 + 6, none⟩ = some (.int .i64 x.r.tries) ∧ w'.cell? ⟨b, off + i * 8 + 7, none⟩ = some (.slice x.a x.r.labels.length x.c)) w8 := ⟨hst8.out.cell 0, hst8.ka.cell 0, cellL hst8.below HX0.out, cellL hst8.below HX1.out, cellL hst8.below HX2.out, cellL hst8.below HX3.out, cellL hst8.below HX4.out, cellL hst8.below HX5.out, cellL hst8.below HX6.out, cellL hst8.below HX7.out⟩
      refine hK.out _ _ hS1 ?_
      clear hS
      have hS := hS1
      clear hS1
      have HNN := Lib.hid hnn
      clear hnn
      clear hK
      try simp only [Act.put, List.setIfInBounds_toArray, List.set_cons_zero, List.set_cons_succ]
      refine wpAnyM_pure (v := ?v9L1) 9 rfl (by kernel_rfl) (by kernel_rfl) (by kernel_rfl) (by kernel_rfl) (by decide) (fun _ _ _ h => h) (Or.inl ⟨by rfl, ?hy9L1⟩) hS ?rest9L1
      case hy9L1 => intro wq hSw; go_simp; (try with_reducible rfl)
      case rest9L1 =>
      try simp only [Act.put, List.setIfInBounds_toArray, List.set_cons_zero, List.set_cons_succ]
      refine wpAnyM_tail rfl (by decide) (by decide) (by kernel_rfl) ?_
      simp only [List.drop_succ_cons, List.drop_zero]
      have z0 := hst8.out.cell 0
      have zf := hst8.out.frozen 0
      go_wp2_with fail
      have hst9 := hst8.set 0 (.slice na nn nc)
      have ho9 := ho8.setAhead hst8.l2 0 (.slice na nn nc)
      go_roundg gg
      case measure => omega
      case rel => exact ⟨j + 1, .slice na nn nc, by omega, by go_num, hst9, by rw [HPICK.out]; exact ho9⟩
    | zero =>
      obtain rfl : j = PR.length := by omega
      rw [List.take_length] at hown hvl hst
      obtain ⟨y1, hy1⟩ : ∃ y, pick default ru PR = y := ⟨_, rfl⟩
      rw [hy1] at hown hvl
      rw [hy1] at hst
      have HY1 := Lib.hid hy1
      have HO1 := Lib.hid hown
      have HSE1 := Lib.hid hst
      clear hy1 hown hst hvl hvm
      obtain ⟨ga1, hga1⟩ : ∃ q, q = a1 := ⟨_, rfl⟩
      obtain ⟨gc1, hgc1⟩ : ∃ q, q = c1 := ⟨_, rfl⟩
      obtain ⟨wl1, hwl1⟩ : ∃ q, q = wr := ⟨_, rfl⟩
      subst hga1
      subst hgc1
      subst hwl1
      have HR1_l1 := HO1
      have HZl1 := Lib.hid (Blk.but HZ1.out HSE1.out.but HST1.out.l2 (by omega))
      obtain ⟨c0, c1, c2, c3, c4, c5, c6, c7, c8, c9, c10, c11, c12⟩ := HSE1.out.ka.cells13
      go_upto_block 2 with (go_at_call 48; refine (H3.out wl1 HSE1.out.below).mono ?_; rintro e wa2 ⟨v, rfl, hop2, hbp2⟩; obtain ⟨pa2, pc2, rfl, hpl2, hpm2⟩ := hop2.form)
      clear c0 c1 c2 c3 c4 c5 c6 c7 c8 c9 c10 c11 c12
      unfold maxLen at hpm2
      have HST2 := Lib.hid (HSE1.out.start hbp2)
      have HPS2 := Lib.hid hop2
      have HGP2 := Lib.hid (show g + 1 + 1 < wl1.heap.size from Nat.lt_of_lt_of_le HSE1.out.l2 HSE1.out.but.size)
      have HZ2 := Lib.hid (HZl1.out.call hbp2)
      have HR1_a2 := Lib.hid (HR1_l1.out.call hbp2)
      clear hop2 hbp2
      go_wp2_with fail
      go_loopg [48, 9] PS.length (fun gg iv _ wr => ∃ (j : Nat) (V : Value), j + gg = PS.length ∧ iv = .int .i64 (j : Int) ∧ NSt w g (g + 1 + 1) #[.slice ua ru.length uc, .string n.recv, .slice ma n.ms.length mc, .slice ba n.bys.length bc, .int .i64 n.wait, .int .i64 n.every, .int .i64 n.rep, .slice mu n.mute.length mv, .bool n.on, .slice ka n.kids.length kc, .slice ra re.length rc, .slice ia ih.length ic, .slice ha hr.length hc] #[(.slice ga1 y1.length gc1), .string n.recv, .slice ma n.ms.length mc, .slice ba n.bys.length bc, .int .i64 n.wait, .int .i64 n.every, .int .i64 n.rep, .slice mu n.mute.length mv, .bool n.on, .slice ka n.kids.length kc, V, .slice none 0 0, .slice none 0 0] wa2 wr ∧ OwnX 9 1 encS wr wa2.heap.size V (pick ⟨#[]⟩ re (PS.take j)))
      case atStart => exact ⟨0, .slice none 0 0, by omega, rfl, HST2.out, OwnX.nil _ _ _⟩
      case round =>
        obtain ⟨j, V, hjg, rfl, hst, hown⟩ := hrel
        obtain ⟨a1, c1, rfl, hvl, hvm⟩ := hown.form
        cases gk with
        | succ gg =>
          have hjl : j < PS.length := by omega
          obtain ⟨gp, rfl⟩ := some_of HPS2.out (by omega)
          have hps := hst.but.ownX HGP2.out HPS2.out
          have hcp := ints_at hps j hjl
          have hpx := HLS.out.1 PS[j] (List.getElem_mem hjl)
          have hpick : pick ⟨#[]⟩ re (PS.take (j + 1)) = pick ⟨#[]⟩ re (PS.take j) ++ [re[PS[j]]] := by
            rw [List.take_succ_eq_append_getElem hjl, pick_snoc _ _ _ _ hpx]
          have hplen : (pick ⟨#[]⟩ re (PS.take j)).length ≤ 16 := by
            have := HLS.out.2
            unfold pick
            rw [List.length_map, List.length_take]; omega
          have HPICK := Lib.hid hpick
          clear hpick hps hvl hvm
          generalize PS[j] = i at *
          generalize pick ⟨#[]⟩ re (PS.take j) = M at *
          go_upto_region 11 with fail
          clear hcp
          obtain ⟨b, off, rfl, _, hcell⟩ : ∃ b off, ra = some ⟨b, off, none⟩ ∧ b < w.heap.size ∧ ∀ i (h : i < re.length), w.cell? ⟨b, off + i, none⟩ = some (.string re[i]) := by
            rcases HRE.out.2.2.2 with h | h
            · rw [h] at hpx; simp at hpx
            · exact h
          have HX0 := Lib.hid (hcell i hpx)
          have hx0 := cellL hst.below (hcell i hpx)
          generalize re[i] = x at *
          clear hcell
          have hS : (fun w' : World => w'.cell? ⟨g + 1 + 1, 10, none⟩ = some (.slice a1 M.length c1) ∧ w'.cell? ⟨g, 10, none⟩ = some (.slice (some ⟨b, off, none⟩) re.length rc) ∧ w'.cell? ⟨b, off + i, none⟩ = some (.string x)) wr.drew := ⟨hst.out.cell 10, hst.ka.cell 10, hx0⟩
          have q1 : decide (i < re.length) = true := decide_eq_true hpx
          have hst0 : NSt w g (g + 1 + 1) _ _ wa2 wr.drew := hst.call (Below.refl _ _).drew
          have hown0 := hown.call (Below.refl wr.heap.size wr).drew
          have HWA := Lib.hid (show w.heap.size ≤ wa2.heap.size from HST2.out.below.size)
          have hpx2 := HRE.out.1
          have hpx3 := HRE.out.2.1
          unfold maxLen at hpx3
          clear hst hown hx0
          refine wp_region_marked (fun w' : World => w'.cell? ⟨g + 1 + 1, 10, none⟩ = some (.slice a1 M.length c1) ∧ w'.cell? ⟨g, 10, none⟩ = some (.slice (some ⟨b, off, none⟩) re.length rc) ∧ w'.cell? ⟨b, off + i, none⟩ = some (.string x)) 10 (by kernel_rfl) ?_
          refine wpAnyM_pure (v := ?v0L2) 0 rfl (by kernel_rfl) (by kernel_rfl) (by kernel_rfl) (by kernel_rfl) (by decide) (fun _ _ _ h => h) (Or.inl ⟨by rfl, ?hy0L2⟩) hS ?rest0L2
          case hy0L2 => intro wq hSw; go_simp; (try with_reducible rfl)
          case rest0L2 =>
          try simp only [Act.put, List.setIfInBounds_toArray, List.set_cons_zero, List.set_cons_succ]
          refine wpAnyM_loadP [] (v := ?v1L2) 1 rfl (by kernel_rfl) (by kernel_rfl) (by kernel_rfl) (by kernel_rfl) (by decide) (by kernel_rfl) (fun _ _ _ h => h) (Or.inl ⟨by rfl, ?hy1L2⟩) hS ?rest1L2
          case hy1L2 => intro wq hSw; (try dsimp only at hSw); obtain ⟨s0, s1, s2⟩ := hSw; go_simp; (try with_reducible rfl)
          case rest1L2 =>
          try simp only [Act.put, List.setIfInBounds_toArray, List.set_cons_zero, List.set_cons_succ]
          refine wpAnyM_pure (v := ?v2L2) 2 rfl (by kernel_rfl) (by kernel_rfl) (by kernel_rfl) (by kernel_rfl) (by decide) (fun _ _ _ h => h) (Or.inl ⟨by rfl, ?hy2L2⟩) hS ?rest2L2
          case hy2L2 => intro wq hSw; go_simp; (try with_reducible rfl)
          case rest2L2 =>
          try simp only [Act.put, List.setIfInBounds_toArray, List.set_cons_zero, List.set_cons_succ]
          refine wpAnyM_loadP [] (v := ?v3L2) 3 rfl (by kernel_rfl) (by kernel_rfl) (by kernel_rfl) (by kernel_rfl) (by decide) (by kernel_rfl) (fun _ _ _ h => h) (Or.inl ⟨by rfl, ?hy3L2⟩) hS ?rest3L2
          case hy3L2 => intro wq hSw; (try dsimp only at hSw); obtain ⟨s0, s1, s2⟩ := hSw; go_simp; (try with_reducible rfl)
          case rest3L2 =>
          try simp only [Act.put, List.setIfInBounds_toArray, List.set_cons_zero, List.set_cons_succ]
          refine wpAnyM_pure (v := ?v4L2) 4 rfl (by kernel_rfl) (by kernel_rfl) (by kernel_rfl) (by kernel_rfl) (by decide) (fun _ _ _ h => h) (Or.inl ⟨by rfl, ?hy4L2⟩) hS ?rest4L2
          case hy4L2 => intro wq hSw; go_simp; (try with_reducible rfl)
          case rest4L2 =>
          try simp only [Act.put, List.setIfInBounds_toArray, List.set_cons_zero, List.set_cons_succ]
          refine wpAnyM_pure (v := ?v5L2) 5 rfl (by kernel_rfl) (by kernel_rfl) (by kernel_rfl) (by kernel_rfl) (by decide) (fun _ _ _ h => h) (Or.inl ⟨by rfl, ?hy5L2⟩) hS ?rest5L2
          case hy5L2 => intro wq hSw; go_simp; (try with_reducible rfl)
          case rest5L2 =>
          try simp only [Act.put, List.setIfInBounds_toArray, List.set_cons_zero, List.set_cons_succ]
          refine wpAnyM_loadP [] (v := ?v6L2) 6 rfl (by kernel_rfl) (by kernel_rfl) (by kernel_rfl) (by kernel_rfl) (by decide) (by kernel_rfl) (fun _ _ _ h => h) (Or.inl ⟨by rfl, ?hy6L2⟩) hS ?rest6L2
          case hy6L2 => intro wq hSw; (try dsimp only at hSw); obtain ⟨s0, s1, s2⟩ := hSw; go_simp; (try with_reducible rfl)
          case rest6L2 =>
          try simp only [Act.put, List.setIfInBounds_toArray, List.set_cons_zero, List.set_cons_succ]
          refine wpAnyM_one 7 rfl (by kernel_rfl) (fun K hK => ?_)
          go_simp
          have hnb := (Below.refl wr.drew.heap.size wr.drew).alloc (Nat.le_refl _) (.cells #[.string x] 9)
          have hBn := Blk.new wr.drew 9 #[.string x]
          have hst1 := hst0.call hnb
          have hown1 := hown0.call hnb
          have hS1 : (fun w' : World => w'.cell? ⟨g + 1 + 1, 10, none⟩ = some (.slice a1 M.length c1) ∧ w'.cell? ⟨g, 10, none⟩ = some (.slice (some ⟨b, off, none⟩) re.length rc) ∧ w'.cell? ⟨b, off + i, none⟩ = some (.string x)) _ := ⟨hst1.out.cell 10, hst1.ka.cell 10, cellL hnb hS.2.2⟩
          have hsrc := src_oneX (P := Tryz.prog) (enc := encS) (k := 1) (x := x) Tryz.underlying24 encS_len encS_one hBn rfl
          refine hK.out _ _ hS1 ?_
          clear hS
          have hS := hS1
          clear hS1
          clear hK
          try simp only [Act.put, List.setIfInBounds_toArray, List.set_cons_zero, List.set_cons_succ]
          refine wpAnyM_one 8 rfl (by kernel_rfl) (fun K hK => ?_)
          refine step_appX _ (by rfl) (.tmp 53) (.tmp 59) 24 (by rfl) wa2.heap.size 9 iS (.string ⟨#[]⟩) 16 Tryz.underlying24 hiS hS0 hS1 hS2 rfl (by omega) (.slice a1 M.length c1) M (by rfl) hown1 (.slice (some ⟨wr.drew.heap.size, 0, none⟩) 1 1) 1 [x] rfl (by rfl) hsrc (by simp only [List.length_cons, List.length_nil]; omega) hst1.but.size ?_
          intro na nn nc w8 hnn ho8 hg8
          have hst8 := hst1.grown hown1 hg8 HWA.out
          have hS1 : (fun w' : World => w'.cell? ⟨g + 1 + 1, 10, none⟩ = some (.slice a1 M.length c1) ∧ w'.cell? ⟨g, 10, none⟩ = some (.slice (some ⟨b, off, none⟩) re.length rc) ∧ w'.cell? ⟨b, off + i, none⟩ = some (.string x)) w8 := ⟨hst8.out.cell 10, hst8.ka.cell 10, cellL hst8.below HX0.out⟩
          refine hK.out _ _ hS1 ?_
          clear hS
          have hS := hS1
          clear hS1
          have HNN := Lib.hid hnn
          clear hnn
          clear hK
          try simp only [Act.put, List.setIfInBounds_toArray, List.set_cons_zero, List.set_cons_succ]
          refine wpAnyM_pure (v := ?v9L2) 9 rfl (by kernel_rfl) (by kernel_rfl) (by kernel_rfl) (by kernel_rfl) (by decide) (fun _ _ _ h => h) (Or.inl ⟨by rfl, ?hy9L2⟩) hS ?rest9L2
          case hy9L2 => intro wq hSw; go_simp; (try with_reducible rfl)
          case rest9L2 =>
          try simp only [Act.put, List.setIfInBounds_toArray, List.set_cons_zero, List.set_cons_succ]
          refine wpAnyM_tail rfl (by decide) (by decide) (by kernel_rfl) ?_
          simp only [List.drop_succ_cons, List.drop_zero]
          have z0 := hst8.out.cell 10
          have zf := hst8.out.frozen 10
          go_wp2_with fail
          have hst9 := hst8.set 10 (.slice na nn nc)
          have ho9 := ho8.setAhead hst8.l2 10 (.slice na nn nc)
          go_roundg gg
          case measure => omega
          case rel => exact ⟨j + 1, .slice na nn nc, by omega, by go_num, hst9, by rw [HPICK.out]; exact ho9⟩
        | zero =>
          obtain rfl : j = PS.length := by omega
          rw [List.take_length] at hown hvl hst
          obtain ⟨y2, hy2⟩ : ∃ y, pick ⟨#[]⟩ re PS = y := ⟨_, rfl⟩
          rw [hy2] at hown hvl
          rw [hy2] at hst
          have HY2 := Lib.hid hy2
          have HO2 := Lib.hid hown
          have HSE2 := Lib.hid hst
          clear hy2 hown hst hvl hvm
          obtain ⟨ga2, hga2⟩ : ∃ q, q = a1 := ⟨_, rfl⟩
          obtain ⟨gc2, hgc2⟩ : ∃ q, q = c1 := ⟨_, rfl⟩
          obtain ⟨wl2, hwl2⟩ : ∃ q, q = wr := ⟨_, rfl⟩
          subst hga2
          subst hgc2
          subst hwl2
          have HR1_l2 := Lib.hid (HSE2.out.but.ownX HST1.out.l2 HR1_a2.out)
          have HR2_l2 := HO2
          have HZl2 := Lib.hid (Blk.but HZ2.out HSE2.out.but HST2.out.l2 (by omega))
          obtain ⟨c0, c1, c2, c3, c4, c5, c6, c7, c8, c9, c10, c11, c12⟩ := HSE2.out.ka.cells13
          go_upto_region 14 with (go_at_call 26; refine (H2.out wl2 HSE2.out.below).mono ?_; rintro e wu3 ⟨v, B3, rfl, hbu3, hou3⟩; obtain ⟨na3, nc3, rfl, hns3⟩ := hou3.strs HSH.out)
          clear c0 c1 c2 c3 c4 c5 c6 c7 c8 c9 c10 c11 c12
          have HU3 := Lib.hid hbu3
          have HN3 := Lib.hid hns3
          clear hbu3 hou3 hns3
          go_upto_block 4 with (go_at_call 48; refine (HP2.out na3 nc3 wu3 HN3.out).mono ?_; rintro e wa3 ⟨v, rfl, hop3, hbp3⟩; obtain ⟨pa3, pc3, rfl, hpl3, hpm3⟩ := hop3.form)
          unfold maxLen at hpm3
          have HST3 := Lib.hid (HSE2.out.start (bthen HU3.out hbp3))
          have HPS3 := Lib.hid hop3
          have HGP3 := Lib.hid (show g + 1 + 1 < wu3.heap.size from Nat.lt_of_lt_of_le (Nat.lt_of_lt_of_le HSE2.out.l2 HSE2.out.but.size) HU3.out.size)
          have HZ3 := Lib.hid (HZl2.out.call (bthen HU3.out hbp3))
          have HR1_a3 := Lib.hid (HR1_l2.out.call (bthen HU3.out hbp3))
          have HR2_a3 := Lib.hid (HR2_l2.out.call (bthen HU3.out hbp3))
          clear hop3 hbp3
          go_wp2_with fail
          go_loopg [72, 11] PH.length (fun gg iv _ wr => ∃ (j : Nat) (V : Value), j + gg = PH.length ∧ iv = .int .i64 (j : Int) ∧ NSt w g (g + 1 + 1) #[.slice ua ru.length uc, .string n.recv, .slice ma n.ms.length mc, .slice ba n.bys.length bc, .int .i64 n.wait, .int .i64 n.every, .int .i64 n.rep, .slice mu n.mute.length mv, .bool n.on, .slice ka n.kids.length kc, .slice ra re.length rc, .slice ia ih.length ic, .slice ha hr.length hc] #[(.slice ga1 y1.length gc1), .string n.recv, .slice ma n.ms.length mc, .slice ba n.bys.length bc, .int .i64 n.wait, .int .i64 n.every, .int .i64 n.rep, .slice mu n.mute.length mv, .bool n.on, .slice ka n.kids.length kc, (.slice ga2 y2.length gc2), .slice none 0 0, V] wa3 wr ∧ OwnX 57 4 HrA.enc wr wa3.heap.size V (pick default hr (PH.take j)))
          case atStart => exact ⟨0, .slice none 0 0, by omega, rfl, HST3.out, OwnX.nil _ _ _⟩
          case round =>
            obtain ⟨j, V, hjg, rfl, hst, hown⟩ := hrel
            obtain ⟨a1, c1, rfl, hvl, hvm⟩ := hown.form
            cases gk with
            | succ gg =>
              have hjl : j < PH.length := by omega
              obtain ⟨gp, rfl⟩ := some_of HPS3.out (by omega)
              have hps := hst.but.ownX HGP3.out HPS3.out
              have hcp := ints_at hps j hjl
              have hpx := HLH.out.1 PH[j] (List.getElem_mem hjl)
              have hpick : pick default hr (PH.take (j + 1)) = pick default hr (PH.take j) ++ [hr[PH[j]]] := by
                rw [List.take_succ_eq_append_getElem hjl, pick_snoc _ _ _ _ hpx]
              have hplen : (pick default hr (PH.take j)).length ≤ 16 := by
                have := HLH.out.2
                unfold pick
                rw [List.length_map, List.length_take]; omega
              have HPICK := Lib.hid hpick
              clear hpick hps hvl hvm
              generalize PH[j] = i at *
              generalize pick default hr (PH.take j) = M at *
              go_upto_region 17 with fail
              clear hcp
              obtain ⟨b, off, rfl, _, hcell⟩ := HasRow.place HRH.out i hpx
              have hy0 := hcell 0 _ rfl
              have hy1 := hcell 1 _ rfl
              have hy2 := hcell 2 _ rfl
              have hy3 := hcell 3 _ rfl
              obtain ⟨x, hx⟩ : ∃ x, hr[i] = x := ⟨_, rfl⟩
              have hx0 := cellL hst.below (hcell 0 _ rfl)
              have hx1 := cellL hst.below (hcell 1 _ rfl)
              have hx2 := cellL hst.below (hcell 2 _ rfl)
              have hx3 := cellL hst.below (hcell 3 _ rfl)
              rw [Nat.add_zero] at hx0
              rw [hx] at HPICK
              rw [Nat.add_zero] at hy0
              simp only [hx] at hy0 hy1 hy2 hy3
              have HX0 := Lib.hid hy0
              have HX1 := Lib.hid hy1
              have HX2 := Lib.hid hy2
              have HX3 := Lib.hid hy3
              clear hy0 hy1 hy2 hy3
              simp only [hx] at hx0 hx1 hx2 hx3
              clear hcell hx
              have hS : (fun w' : World => w'.cell? ⟨g + 1 + 1, 12, none⟩ = some (.slice a1 M.length c1) ∧ w'.cell? ⟨g, 12, none⟩ = some (.slice (some ⟨b, off, none⟩) hr.length hc) ∧ w'.cell? ⟨b, off + i * 4, none⟩ = some (.string x.n) ∧ w'.cell? ⟨b, off + i * 4 + 1, none⟩ = some (.int .i64 x.d) ∧ w'.cell? ⟨b, off + i * 4 + 2, none⟩ = some (.int .i64 x.f) ∧ w'.cell? ⟨b, off + i * 4 + 3, none⟩ = some (.int .i64 x.t)) wr.drew := ⟨hst.out.cell 12, hst.ka.cell 12, hx0, hx1, hx2, hx3⟩
              have q1 : decide (i < hr.length) = true := decide_eq_true hpx
              have hst0 : NSt w g (g + 1 + 1) _ _ wa3 wr.drew := hst.call (Below.refl _ _).drew
              have hown0 := hown.call (Below.refl wr.heap.size wr).drew
              have HWA := Lib.hid (show w.heap.size ≤ wa3.heap.size from HST3.out.below.size)
              have hpx2 := HRH.out.1
              have hpx3 := HRH.out.2.1
              unfold maxLen at hpx3
              clear hst hown hx0 hx1 hx2 hx3
              refine wp_region_marked (fun w' : World => w'.cell? ⟨g + 1 + 1, 12, none⟩ = some (.slice a1 M.length c1) ∧ w'.cell? ⟨g, 12, none⟩ = some (.slice (some ⟨b, off, none⟩) hr.length hc) ∧ w'.cell? ⟨b, off + i * 4, none⟩ = some (.string x.n) ∧ w'.cell? ⟨b, off + i * 4 + 1, none⟩ = some (.int .i64 x.d) ∧ w'.cell? ⟨b, off + i * 4 + 2, none⟩ = some (.int .i64 x.f) ∧ w'.cell? ⟨b, off + i * 4 + 3, none⟩ = some (.int .i64 x.t)) 10 (by kernel_rfl) ?_
              refine wpAnyM_pure (v := ?v0L3) 0 rfl (by kernel_rfl) (by kernel_rfl) (by kernel_rfl) (by kernel_rfl) (by decide) (fun _ _ _ h => h) (Or.inl ⟨by rfl, ?hy0L3⟩) hS ?rest0L3
              case hy0L3 => intro wq hSw; go_simp; (try with_reducible rfl)
              case rest0L3 =>
              try simp only [Act.put, List.setIfInBounds_toArray, List.set_cons_zero, List.set_cons_succ]
              refine wpAnyM_loadP [] (v := ?v1L3) 1 rfl (by kernel_rfl) (by kernel_rfl) (by kernel_rfl) (by kernel_rfl) (by decide) (by kernel_rfl) (fun _ _ _ h => h) (Or.inl ⟨by rfl, ?hy1L3⟩) hS ?rest1L3
              case hy1L3 => intro wq hSw; (try dsimp only at hSw); obtain ⟨s0, s1, s2, s3, s4, s5⟩ := hSw; go_simp; (try with_reducible rfl)
              case rest1L3 =>
              try simp only [Act.put, List.setIfInBounds_toArray, List.set_cons_zero, List.set_cons_succ]
              refine wpAnyM_pure (v := ?v2L3) 2 rfl (by kernel_rfl) (by kernel_rfl) (by kernel_rfl) (by kernel_rfl) (by decide) (fun _ _ _ h => h) (Or.inl ⟨by rfl, ?hy2L3⟩) hS ?rest2L3
              case hy2L3 => intro wq hSw; go_simp; (try with_reducible rfl)
              case rest2L3 =>
              try simp only [Act.put, List.setIfInBounds_toArray, List.set_cons_zero, List.set_cons_succ]
              refine wpAnyM_loadP [] (v := ?v3L3) 3 rfl (by kernel_rfl) (by kernel_rfl) (by kernel_rfl) (by kernel_rfl) (by decide) (by kernel_rfl) (fun _ _ _ h => h) (Or.inl ⟨by rfl, ?hy3L3⟩) hS ?rest3L3
              case hy3L3 => intro wq hSw; (try dsimp only at hSw); obtain ⟨s0, s1, s2, s3, s4, s5⟩ := hSw; go_simp; (try with_reducible rfl)
              case rest3L3 =>
              try simp only [Act.put, List.setIfInBounds_toArray, List.set_cons_zero, List.set_cons_succ]
              refine wpAnyM_pure (v := ?v4L3) 4 rfl (by kernel_rfl) (by kernel_rfl) (by kernel_rfl) (by kernel_rfl) (by decide) (fun _ _ _ h => h) (Or.inl ⟨by rfl, ?hy4L3⟩) hS ?rest4L3
              case hy4L3 => intro wq hSw; go_simp; (try with_reducible rfl)
              case rest4L3 =>
              try simp only [Act.put, List.setIfInBounds_toArray, List.set_cons_zero, List.set_cons_succ]
              refine wpAnyM_pure (v := ?v5L3) 5 rfl (by kernel_rfl) (by kernel_rfl) (by kernel_rfl) (by kernel_rfl) (by decide) (fun _ _ _ h => h) (Or.inl ⟨by rfl, ?hy5L3⟩) hS ?rest5L3
              case hy5L3 => intro wq hSw; go_simp; (try with_reducible rfl)
              case rest5L3 =>
              try simp only [Act.put, List.setIfInBounds_toArray, List.set_cons_zero, List.set_cons_succ]
              refine wpAnyM_loadP [] (v := ?v6L3) 6 rfl (by kernel_rfl) (by kernel_rfl) (by kernel_rfl) (by kernel_rfl) (by decide) (by kernel_rfl) (fun _ _ _ h => h) (Or.inl ⟨by rfl, ?hy6L3⟩) hS ?rest6L3
              case hy6L3 => intro wq hSw; (try dsimp only at hSw); obtain ⟨s0, s1, s2, s3, s4, s5⟩ := hSw; go_simp; (try with_reducible rfl)
              case rest6L3 =>
              try simp only [Act.put, List.setIfInBounds_toArray, List.set_cons_zero, List.set_cons_succ]
              refine wpAnyM_one 7 rfl (by kernel_rfl) (fun K hK => ?_)
              go_simp
              have hnb := (Below.refl wr.drew.heap.size wr.drew).alloc (Nat.le_refl _) (.cells #[.string x.n, .int .i64 x.d, .int .i64 x.f, .int .i64 x.t] 57)
              have hBn := Blk.new wr.drew 57 #[.string x.n, .int .i64 x.d, .int .i64 x.f, .int .i64 x.t]
              have hst1 := hst0.call hnb
              have hown1 := hown0.call hnb
              have hS1 : (fun w' : World => w'.cell? ⟨g + 1 + 1, 12, none⟩ = some (.slice a1 M.length c1) ∧ w'.cell? ⟨g, 12, none⟩ = some (.slice (some ⟨b, off, none⟩) hr.length hc) ∧ w'.cell? ⟨b, off + i * 4, none⟩ = some (.string x.n) ∧ w'.cell? ⟨b, off + i * 4 + 1, none⟩ = some (.int .i64 x.d) ∧ w'.cell? ⟨b, off + i * 4 + 2, none⟩ = some (.int .i64 x.f) ∧ w'.cell? ⟨b, off + i * 4 + 3, none⟩ = some (.int .i64 x.t)) _ := ⟨hst1.out.cell 12, hst1.ka.cell 12, cellL hnb hS.2.2.1, cellL hnb hS.2.2.2.1, cellL hnb hS.2.2.2.2.1, cellL hnb hS.2.2.2.2.2⟩
              have hsrc := src_oneX (P := Tryz.prog) (enc := HrA.enc) (k := 4) (x := x) Tryz.underlying29 HrA.enc_len HrA.enc_one hBn rfl
              refine hK.out _ _ hS1 ?_
              clear hS
              have hS := hS1
              clear hS1
              clear hK
              try simp only [Act.put, List.setIfInBounds_toArray, List.set_cons_zero, List.set_cons_succ]
              refine wpAnyM_one 8 rfl (by kernel_rfl) (fun K hK => ?_)
              refine step_appX _ (by rfl) (.tmp 77) (.tmp 83) 29 (by rfl) wa3.heap.size 57 iH (.agg #[.string ⟨#[]⟩, .int .i64 0, .int .i64 0, .int .i64 0]) 40 Tryz.underlying29 hiH hH0 hH1 hH2 rfl (by omega) (.slice a1 M.length c1) M (by rfl) hown1 (.slice (some ⟨wr.drew.heap.size, 0, none⟩) 1 1) 1 [x] rfl (by rfl) hsrc (by simp only [List.length_cons, List.length_nil]; omega) hst1.but.size ?_
              intro na nn nc w8 hnn ho8 hg8
              have hst8 := hst1.grown hown1 hg8 HWA.out
              have hS1 : (fun w' : World => w'.cell? ⟨g + 1 + 1, 12, none⟩ = some (.slice a1 M.length c1) ∧ w'.cell? ⟨g, 12, none⟩ = some (.slice (some ⟨b, off, none⟩) hr.length hc) ∧ w'.cell? ⟨b, off + i * 4, none⟩ = some (.string x.n) ∧ w'.cell? ⟨b, off + i * 4 + 1, none⟩ = some (.int .i64 x.d) ∧ w'.cell? ⟨b, off + i * 4 + 2, none⟩ = some (.int .i64 x.f) ∧ w'.cell? ⟨b, off + i * 4 + 3, none⟩ = some (.int .i64 x.t)) w8 := ⟨hst8.out.cell 12, hst8.ka.cell 12, cellL hst8.below HX0.out, cellL hst8.below HX1.out, cellL hst8.below HX2.out, cellL hst8.below HX3.out⟩
              refine hK.out _ _ hS1 ?_
              clear hS
              have hS := hS1
              clear hS1
              have HNN := Lib.hid hnn
              clear hnn
              clear hK
              try simp only [Act.put, List.setIfInBounds_toArray, List.set_cons_zero, List.set_cons_succ]
              refine wpAnyM_pure (v := ?v9L3) 9 rfl (by kernel_rfl) (by kernel_rfl) (by kernel_rfl) (by kernel_rfl) (by decide) (fun _ _ _ h => h) (Or.inl ⟨by rfl, ?hy9L3⟩) hS ?rest9L3
              case hy9L3 => intro wq hSw; go_simp; (try with_reducible rfl)
              case rest9L3 =>
              try simp only [Act.put, List.setIfInBounds_toArray, List.set_cons_zero, List.set_cons_succ]
              refine wpAnyM_tail rfl (by decide) (by decide) (by kernel_rfl) ?_
              simp only [List.drop_succ_cons, List.drop_zero]
              have z0 := hst8.out.cell 12
              have zf := hst8.out.frozen 12
              go_wp2_with fail
              have hst9 := hst8.set 12 (.slice na nn nc)
              have ho9 := ho8.setAhead hst8.l2 12 (.slice na nn nc)
              go_roundg gg
              case measure => omega
              case rel => exact ⟨j + 1, .slice na nn nc, by omega, by go_num, hst9, by rw [HPICK.out]; exact ho9⟩
            | zero =>
              obtain rfl : j = PH.length := by omega
              rw [List.take_length] at hown hvl hst
              obtain ⟨y3, hy3⟩ : ∃ y, pick default hr PH = y := ⟨_, rfl⟩
              rw [hy3] at hown hvl
              rw [hy3] at hst
              have HY3 := Lib.hid hy3
              have HO3 := Lib.hid hown
              have HSE3 := Lib.hid hst
              clear hy3 hown hst hvl hvm
              obtain ⟨ga3, hga3⟩ : ∃ q, q = a1 := ⟨_, rfl⟩
              obtain ⟨gc3, hgc3⟩ : ∃ q, q = c1 := ⟨_, rfl⟩
              obtain ⟨wl3, hwl3⟩ : ∃ q, q = wr := ⟨_, rfl⟩
              subst hga3
              subst hgc3
              subst hwl3
              have HR1_l3 := Lib.hid (HSE3.out.but.ownX HST1.out.l2 HR1_a3.out)
              have HR2_l3 := Lib.hid (HSE3.out.but.ownX HST2.out.l2 HR2_a3.out)
              have HR3_l3 := HO3
              have HZl3 := Lib.hid (Blk.but HZ3.out HSE3.out.but HST3.out.l2 (by omega))
              have HSW := Lib.hid (HSE3.out.start (Below.refl _ _))
              have HGW := Lib.hid (show g + 1 + 1 < wl3.heap.size from Nat.lt_of_lt_of_le HSE3.out.l2 HSE3.out.but.size)
              have hown := OwnS.made 9 wl3
              have hbm := (Below.refl wl3.heap.size wl3).alloc (Nat.le_refl _) (.cells #[] 9)
              have hstm := HSW.out.call hbm
              go_upto_region 20 with fail
              generalize wl3.alloc (.cells #[] 9) = wm at *
              obtain ⟨c0, c1, c2, c3, c4, c5, c6, c7, c8, c9, c10, c11, c12⟩ := hstm.ka.cells13
              go_wp2_with fail
              clear c0 c1 c2 c3 c4 c5 c6 c7 c8 c9 c10 c11 c12
              have hil := HRI.out.1
              have him := HRI.out.2.1
              unfold maxLen at him
              go_loopg [91, 12, 14] ih.length (fun gg iv v _ wr => ∃ (V : Value) (j : Nat), V = v ∧ j + gg = ih.length ∧ iv = .int .i64 (j : Int) ∧ OwnS 9 wr wl3.heap.size V ((ih.take j).map inhT) ∧ NSt w g (g + 1 + 1) #[.slice ua ru.length uc, .string n.recv, .slice ma n.ms.length mc, .slice ba n.bys.length bc, .int .i64 n.wait, .int .i64 n.every, .int .i64 n.rep, .slice mu n.mute.length mv, .bool n.on, .slice ka n.kids.length kc, .slice ra re.length rc, .slice ia ih.length ic, .slice ha hr.length hc] #[(.slice ga1 y1.length gc1), .string n.recv, .slice ma n.ms.length mc, .slice ba n.bys.length bc, .int .i64 n.wait, .int .i64 n.every, .int .i64 n.rep, .slice mu n.mute.length mv, .bool n.on, .slice ka n.kids.length kc, (.slice ga2 y2.length gc2), .slice none 0 0, (.slice ga3 y3.length gc3)] wl3 wr)
              case atStart => exact ⟨_, 0, rfl, by omega, rfl, by simpa using hown, hstm⟩
              case round =>
                clear hown hbm hstm
                obtain ⟨V, j, rfl, hjg, rfl, hown, hst⟩ := hrel
                cases gk with
                | succ gg =>
                  have hjl : j < ih.length := by omega
                  obtain ⟨b, off, rfl, _, hcell⟩ := HasRow.place HRI.out j hjl
                  have e0 := cellL hst.below (hcell 0 _ rfl)
                  have e1 := cellL hst.below (hcell 1 _ rfl)
                  have e2 := cellL hst.below (hcell 2 _ rfl)
                  rw [Nat.add_zero] at e0
                  have hts : (ih.take (j + 1)).map inhT = (ih.take j).map inhT ++ [inhT ih[j]] := by
                    rw [List.take_succ_eq_append_getElem hjl, List.map_append]; rfl
                  have hll : ((ih.take j).map inhT).length ≤ 1000000 := by simp; omega
                  have hok := HRI.out.2.2.1 ih[j] (List.getElem_mem _)
                  have hgd := HGI.out ih[j] (List.getElem_mem _)
                  have HTS := Lib.hid hts
                  clear hts hcell
                  obtain ⟨x, hx⟩ : ∃ x, ih[j] = x := ⟨_, rfl⟩
                  rw [hx] at HTS hok hgd
                  simp only [hx] at e0 e1 e2
                  clear hx
                  have hbn := (Below.refl wr.heap.size wr).alloc (Nat.le_refl _) (.cells #[.slice x.sa x.s.length x.sc, .slice x.ta x.t.length x.tc, .slice x.ea x.e.length x.ec] 51)
                  have hN := Blk.new wr 51 #[.slice x.sa x.s.length x.sc, .slice x.ta x.t.length x.tc, .slice x.ea x.e.length x.ec]
                  obtain ⟨f0, f1, f2⟩ := hN.cells3
                  have hownn := hown.call hbn
                  have hstn := hst.call hbn
                  have hcall := rQuiet_any x _ (InA.ok.call hok hstn.below) hgd
                  have HCA := Lib.hid hcall
                  have HSTN := Lib.hid hstn
                  generalize (ih.take j).map inhT = M at *
                  clear hN hbn hown hst hcall hok hgd hstn
                  go_upto_region 23 with fail
                  generalize wr.alloc (.cells #[.slice x.sa x.s.length x.sc, .slice x.ta x.t.length x.tc, .slice x.ea x.e.length x.ec] 51) = wn at *
                  clear e0 e1 e2
                  generalize inhT x = Y at *
                  go_wp2_with (first
                    | (go_at_call 46; refine HCA.out.mono ?_; rintro e w3 ⟨rfl, hb3⟩; have ho3 := hownn.call hb3; have hst3 := HSTN.out.call hb3)
                    | (refine wpList_pushStr w3 (by rfl) (.tmp 95) (.tmp 98) 24 (by rfl) wl3.heap.size 9 iS (.string ⟨#[]⟩) Tryz.underlying24 hiS hS0 hS1 hS2 rfl V M Y (by rfl) ho3 (by rfl) hll hst3.but.size ?_; intro v4 w4 ho4 hg4))
                  have hst4 := hst3.grownS ho3 hg4 HSW.out.below.size
                  go_roundg gg
                  case measure => omega
                  case rel => exact ⟨v4, j + 1, rfl, by omega, by go_num, by rw [HTS.out]; exact ho4, hst4⟩
                | zero =>
                  obtain rfl : j = ih.length := by omega
                  rw [List.take_length] at hown
                  obtain ⟨na5, nc5, rfl, hns5⟩ := hown.strs HSI.out
                  have HSE4 := Lib.hid hst
                  have HN5 := Lib.hid hns5
                  have HR1_l4 := Lib.hid (hst.but.ownX HST1.out.l2 HR1_l3.out)
                  have HR2_l4 := Lib.hid (hst.but.ownX HST2.out.l2 HR2_l3.out)
                  have HR3_l4 := Lib.hid (hst.but.ownX HST3.out.l2 HR3_l3.out)
                  have HZl4 := Lib.hid (Blk.but HZl3.out hst.but HGW.out (by omega))
                  clear hown hst hns5
                  obtain ⟨wl4, hwl4⟩ : ∃ q, q = wr := ⟨_, rfl⟩
                  subst hwl4
                  go_upto_block 8 with (go_at_call 48; refine (HP3.out na5 nc5 wl4 HN5.out).mono ?_; rintro e wa5 ⟨v, rfl, hop5, hbp5⟩; obtain ⟨pa5, pc5, rfl, hpl5, hpm5⟩ := hop5.form)
                  unfold maxLen at hpm5
                  have HST5 := Lib.hid (HSE4.out.start hbp5)
                  have HPS5 := Lib.hid hop5
                  have HGP5 := Lib.hid (show g + 1 + 1 < wl4.heap.size from Nat.lt_of_lt_of_le HSE4.out.l2 HSE4.out.but.size)
                  have HZ5 := Lib.hid (HZl4.out.call hbp5)
                  have HR1_a5 := Lib.hid (HR1_l4.out.call hbp5)
                  have HR2_a5 := Lib.hid (HR2_l4.out.call hbp5)
                  have HR3_a5 := Lib.hid (HR3_l4.out.call hbp5)
                  clear hop5 hbp5
                  go_wp2_with fail
                  go_loopg [104, 16] PI.length (fun gg iv _ wr => ∃ (j : Nat) (V : Value), j + gg = PI.length ∧ iv = .int .i64 (j : Int) ∧ NSt w g (g + 1 + 1) #[.slice ua ru.length uc, .string n.recv, .slice ma n.ms.length mc, .slice ba n.bys.length bc, .int .i64 n.wait, .int .i64 n.every, .int .i64 n.rep, .slice mu n.mute.length mv, .bool n.on, .slice ka n.kids.length kc, .slice ra re.length rc, .slice ia ih.length ic, .slice ha hr.length hc] #[(.slice ga1 y1.length gc1), .string n.recv, .slice ma n.ms.length mc, .slice ba n.bys.length bc, .int .i64 n.wait, .int .i64 n.every, .int .i64 n.rep, .slice mu n.mute.length mv, .bool n.on, .slice ka n.kids.length kc, (.slice ga2 y2.length gc2), V, (.slice ga3 y3.length gc3)] wa5 wr ∧ OwnX 51 3 InA.enc wr wa5.heap.size V (pick default ih (PI.take j)))
                  case atStart => exact ⟨0, .slice none 0 0, by omega, rfl, HST5.out, OwnX.nil _ _ _⟩
                  case round =>
                    obtain ⟨j, V, hjg, rfl, hst, hown⟩ := hrel
                    obtain ⟨a1, c1, rfl, hvl, hvm⟩ := hown.form
                    cases gk with
                    | succ gg =>
                      have hjl : j < PI.length := by omega
                      obtain ⟨gp, rfl⟩ := some_of HPS5.out (by omega)
                      have hps := hst.but.ownX HGP5.out HPS5.out
                      have hcp := ints_at hps j hjl
                      have hpx := HLI.out.1 PI[j] (List.getElem_mem hjl)
                      have hpick : pick default ih (PI.take (j + 1)) = pick default ih (PI.take j) ++ [ih[PI[j]]] := by
                        rw [List.take_succ_eq_append_getElem hjl, pick_snoc _ _ _ _ hpx]
                      have hplen : (pick default ih (PI.take j)).length ≤ 16 := by
                        have := HLI.out.2
                        unfold pick
                        rw [List.length_map, List.length_take]; omega
                      have HPICK := Lib.hid hpick
                      clear hpick hps hvl hvm
                      generalize PI[j] = i at *
                      generalize pick default ih (PI.take j) = M at *
                      go_upto_region 28 with fail
                      clear hcp
                      obtain ⟨b, off, rfl, _, hcell⟩ := HasRow.place HRI.out i hpx
                      have hy0 := hcell 0 _ rfl
                      have hy1 := hcell 1 _ rfl
                      have hy2 := hcell 2 _ rfl
                      obtain ⟨x, hx⟩ : ∃ x, ih[i] = x := ⟨_, rfl⟩
                      have hx0 := cellL hst.below (hcell 0 _ rfl)
                      have hx1 := cellL hst.below (hcell 1 _ rfl)
                      have hx2 := cellL hst.below (hcell 2 _ rfl)
                      rw [Nat.add_zero] at hx0
                      rw [hx] at HPICK
                      rw [Nat.add_zero] at hy0
                      simp only [hx] at hy0 hy1 hy2
                      have HX0 := Lib.hid hy0
                      have HX1 := Lib.hid hy1
                      have HX2 := Lib.hid hy2
                      clear hy0 hy1 hy2
                      simp only [hx] at hx0 hx1 hx2
                      clear hcell hx
                      have hS : (fun w' : World => w'.cell? ⟨g + 1 + 1, 11, none⟩ = some (.slice a1 M.length c1) ∧ w'.cell? ⟨g, 11, none⟩ = some (.slice (some ⟨b, off, none⟩) ih.length ic) ∧ w'.cell? ⟨b, off + i * 3, none⟩ = some (.slice x.sa x.s.length x.sc) ∧ w'.cell? ⟨b, off + i * 3 + 1, none⟩ = some (.slice x.ta x.t.length x.tc) ∧ w'.cell? ⟨b, off + i * 3 + 2, none⟩ = some (.slice x.ea x.e.length x.ec)) wr.drew := ⟨hst.out.cell 11, hst.ka.cell 11, hx0, hx1, hx2⟩
                      have q1 : decide (i < ih.length) = true := decide_eq_true hpx
                      have hst0 : NSt w g (g + 1 + 1) _ _ wa5 wr.drew := hst.call (Below.refl _ _).drew
                      have hown0 := hown.call (Below.refl wr.heap.size wr).drew
                      have HWA := Lib.hid (show w.heap.size ≤ wa5.heap.size from HST5.out.below.size)
                      have hpx2 := HRI.out.1
                      have hpx3 := HRI.out.2.1
                      unfold maxLen at hpx3
                      clear hst hown hx0 hx1 hx2
                      refine wp_region_marked (fun w' : World => w'.cell? ⟨g + 1 + 1, 11, none⟩ = some (.slice a1 M.length c1) ∧ w'.cell? ⟨g, 11, none⟩ = some (.slice (some ⟨b, off, none⟩) ih.length ic) ∧ w'.cell? ⟨b, off + i * 3, none⟩ = some (.slice x.sa x.s.length x.sc) ∧ w'.cell? ⟨b, off + i * 3 + 1, none⟩ = some (.slice x.ta x.t.length x.tc) ∧ w'.cell? ⟨b, off + i * 3 + 2, none⟩ = some (.slice x.ea x.e.length x.ec)) 10 (by kernel_rfl) ?_
                      refine wpAnyM_pure (v := ?v0L5) 0 rfl (by kernel_rfl) (by kernel_rfl) (by kernel_rfl) (by kernel_rfl) (by decide) (fun _ _ _ h => h) (Or.inl ⟨by rfl, ?hy0L5⟩) hS ?rest0L5
                      case hy0L5 => intro wq hSw; go_simp; (try with_reducible rfl)
                      case rest0L5 =>
                      try simp only [Act.put, List.setIfInBounds_toArray, List.set_cons_zero, List.set_cons_succ]
                      refine wpAnyM_loadP [] (v := ?v1L5) 1 rfl (by kernel_rfl) (by kernel_rfl) (by kernel_rfl) (by kernel_rfl) (by decide) (by kernel_rfl) (fun _ _ _ h => h) (Or.inl ⟨by rfl, ?hy1L5⟩) hS ?rest1L5
                      case hy1L5 => intro wq hSw; (try dsimp only at hSw); obtain ⟨s0, s1, s2, s3, s4⟩ := hSw; go_simp; (try with_reducible rfl)
                      case rest1L5 =>
                      try simp only [Act.put, List.setIfInBounds_toArray, List.set_cons_zero, List.set_cons_succ]
                      refine wpAnyM_pure (v := ?v2L5) 2 rfl (by kernel_rfl) (by kernel_rfl) (by kernel_rfl) (by kernel_rfl) (by decide) (fun _ _ _ h => h) (Or.inl ⟨by rfl, ?hy2L5⟩) hS ?rest2L5
                      case hy2L5 => intro wq hSw; go_simp; (try with_reducible rfl)
                      case rest2L5 =>
                      try simp only [Act.put, List.setIfInBounds_toArray, List.set_cons_zero, List.set_cons_succ]
                      refine wpAnyM_loadP [] (v := ?v3L5) 3 rfl (by kernel_rfl) (by kernel_rfl) (by kernel_rfl) (by kernel_rfl) (by decide) (by kernel_rfl) (fun _ _ _ h => h) (Or.inl ⟨by rfl, ?hy3L5⟩) hS ?rest3L5
                      case hy3L5 => intro wq hSw; (try dsimp only at hSw); obtain ⟨s0, s1, s2, s3, s4⟩ := hSw; go_simp; (try with_reducible rfl)
                      case rest3L5 =>
                      try simp only [Act.put, List.setIfInBounds_toArray, List.set_cons_zero, List.set_cons_succ]
                      refine wpAnyM_pure (v := ?v4L5) 4 rfl (by kernel_rfl) (by kernel_rfl) (by kernel_rfl) (by kernel_rfl) (by decide) (fun _ _ _ h => h) (Or.inl ⟨by rfl, ?hy4L5⟩) hS ?rest4L5
                      case hy4L5 => intro wq hSw; go_simp; (try with_reducible rfl)
                      case rest4L5 =>
                      try simp only [Act.put, List.setIfInBounds_toArray, List.set_cons_zero, List.set_cons_succ]
                      refine wpAnyM_pure (v := ?v5L5) 5 rfl (by kernel_rfl) (by kernel_rfl) (by kernel_rfl) (by kernel_rfl) (by decide) (fun _ _ _ h => h) (Or.inl ⟨by rfl, ?hy5L5⟩) hS ?rest5L5
                      case hy5L5 => intro wq hSw; go_simp; (try with_reducible rfl)
                      case rest5L5 =>
                      try simp only [Act.put, List.setIfInBounds_toArray, List.set_cons_zero, List.set_cons_succ]
                      refine wpAnyM_loadP [] (v := ?v6L5) 6 rfl (by kernel_rfl) (by kernel_rfl) (by kernel_rfl) (by kernel_rfl) (by decide) (by kernel_rfl) (fun _ _ _ h => h) (Or.inl ⟨by rfl, ?hy6L5⟩) hS ?rest6L5
                      case hy6L5 => intro wq hSw; (try dsimp only at hSw); obtain ⟨s0, s1, s2, s3, s4⟩ := hSw; go_simp; (try with_reducible rfl)
                      case rest6L5 =>
                      try simp only [Act.put, List.setIfInBounds_toArray, List.set_cons_zero, List.set_cons_succ]
                      refine wpAnyM_one 7 rfl (by kernel_rfl) (fun K hK => ?_)
                      go_simp
                      have hnb := (Below.refl wr.drew.heap.size wr.drew).alloc (Nat.le_refl _) (.cells #[.slice x.sa x.s.length x.sc, .slice x.ta x.t.length x.tc, .slice x.ea x.e.length x.ec] 51)
                      have hBn := Blk.new wr.drew 51 #[.slice x.sa x.s.length x.sc, .slice x.ta x.t.length x.tc, .slice x.ea x.e.length x.ec]
                      have hst1 := hst0.call hnb
                      have hown1 := hown0.call hnb
                      have hS1 : (fun w' : World => w'.cell? ⟨g + 1 + 1, 11, none⟩ = some (.slice a1 M.length c1) ∧ w'.cell? ⟨g, 11, none⟩ = some (.slice (some ⟨b, off, none⟩) ih.length ic) ∧ w'.cell? ⟨b, off + i * 3, none⟩ = some (.slice x.sa x.s.length x.sc) ∧ w'.cell? ⟨b, off + i * 3 + 1, none⟩ = some (.slice x.ta x.t.length x.tc) ∧ w'.cell? ⟨b, off + i * 3 + 2, none⟩ = some (.slice x.ea x.e.length x.ec)) _ := ⟨hst1.out.cell 11, hst1.ka.cell 11, cellL hnb hS.2.2.1, cellL hnb hS.2.2.2.1, cellL hnb hS.2.2.2.2⟩
                      have hsrc := src_oneX (P := Tryz.prog) (enc := InA.enc) (k := 3) (x := x) Tryz.underlying28 InA.enc_lenD InA.enc_oneD hBn rfl
                      refine hK.out _ _ hS1 ?_
                      clear hS
                      have hS := hS1
                      clear hS1
                      clear hK
                      try simp only [Act.put, List.setIfInBounds_toArray, List.set_cons_zero, List.set_cons_succ]
                      refine wpAnyM_one 8 rfl (by kernel_rfl) (fun K hK => ?_)
                      refine step_appX _ (by rfl) (.tmp 109) (.tmp 115) 28 (by rfl) wa5.heap.size 51 iI (.agg #[.slice none 0 0, .slice none 0 0, .slice none 0 0]) 72 Tryz.underlying28 hiI hI0 hI1 hI2 rfl (by omega) (.slice a1 M.length c1) M (by rfl) hown1 (.slice (some ⟨wr.drew.heap.size, 0, none⟩) 1 1) 1 [x] rfl (by rfl) hsrc (by simp only [List.length_cons, List.length_nil]; omega) hst1.but.size ?_
                      intro na nn nc w8 hnn ho8 hg8
                      have hst8 := hst1.grown hown1 hg8 HWA.out
                      have hS1 : (fun w' : World => w'.cell? ⟨g + 1 + 1, 11, none⟩ = some (.slice a1 M.length c1) ∧ w'.cell? ⟨g, 11, none⟩ = some (.slice (some ⟨b, off, none⟩) ih.length ic) ∧ w'.cell? ⟨b, off + i * 3, none⟩ = some (.slice x.sa x.s.length x.sc) ∧ w'.cell? ⟨b, off + i * 3 + 1, none⟩ = some (.slice x.ta x.t.length x.tc) ∧ w'.cell? ⟨b, off + i * 3 + 2, none⟩ = some (.slice x.ea x.e.length x.ec)) w8 := ⟨hst8.out.cell 11, hst8.ka.cell 11, cellL hst8.below HX0.out, cellL hst8.below HX1.out, cellL hst8.below HX2.out⟩
                      refine hK.out _ _ hS1 ?_
                      clear hS
                      have hS := hS1
                      clear hS1
                      have HNN := Lib.hid hnn
                      clear hnn
                      clear hK
                      try simp only [Act.put, List.setIfInBounds_toArray, List.set_cons_zero, List.set_cons_succ]
                      refine wpAnyM_pure (v := ?v9L5) 9 rfl (by kernel_rfl) (by kernel_rfl) (by kernel_rfl) (by kernel_rfl) (by decide) (fun _ _ _ h => h) (Or.inl ⟨by rfl, ?hy9L5⟩) hS ?rest9L5
                      case hy9L5 => intro wq hSw; go_simp; (try with_reducible rfl)
                      case rest9L5 =>
                      try simp only [Act.put, List.setIfInBounds_toArray, List.set_cons_zero, List.set_cons_succ]
                      refine wpAnyM_tail rfl (by decide) (by decide) (by kernel_rfl) ?_
                      simp only [List.drop_succ_cons, List.drop_zero]
                      have z0 := hst8.out.cell 11
                      have zf := hst8.out.frozen 11
                      go_wp2_with fail
                      have hst9 := hst8.set 11 (.slice na nn nc)
                      have ho9 := ho8.setAhead hst8.l2 11 (.slice na nn nc)
                      go_roundg gg
                      case measure => omega
                      case rel => exact ⟨j + 1, .slice na nn nc, by omega, by go_num, hst9, by rw [HPICK.out]; exact ho9⟩
                    | zero =>
                      obtain rfl : j = PI.length := by omega
                      rw [List.take_length] at hown hvl hst
                      obtain ⟨y5, hy5⟩ : ∃ y, pick default ih PI = y := ⟨_, rfl⟩
                      rw [hy5] at hown hvl
                      rw [hy5] at hst
                      have HY5 := Lib.hid hy5
                      have HO5 := Lib.hid hown
                      have HSE5 := Lib.hid hst
                      clear hy5 hown hst hvl hvm
                      obtain ⟨ga5, hga5⟩ : ∃ q, q = a1 := ⟨_, rfl⟩
                      obtain ⟨gc5, hgc5⟩ : ∃ q, q = c1 := ⟨_, rfl⟩
                      obtain ⟨wl5, hwl5⟩ : ∃ q, q = wr := ⟨_, rfl⟩
                      subst hga5
                      subst hgc5
                      subst hwl5
                      have HR1_l5 := Lib.hid (HSE5.out.but.ownX HST1.out.l2 HR1_a5.out)
                      have HR2_l5 := Lib.hid (HSE5.out.but.ownX HST2.out.l2 HR2_a5.out)
                      have HR3_l5 := Lib.hid (HSE5.out.but.ownX HST3.out.l2 HR3_a5.out)
                      have HR5_l5 := HO5
                      have hZ := Blk.but HZ5.out HSE5.out.but HST5.out.l2 (show g + 1 ≠ g + 1 + 1 by omega)
                      have HZl5 := Lib.hid hZ
                      obtain ⟨c0, c1, c2, c3, c4, c5, c6, c7, c8, c9, c10, c11, c12⟩ := HSE5.out.out.cells13
                      obtain ⟨d0, d1, d2, d3, d4, d5, d6, d7, d8, d9, d10, d11, d12⟩ := hZ.cells13
                      have f0 := hZ.frozen 0
                      have f1 := hZ.frozen 1
                      have f2 := hZ.frozen 2
                      have f3 := hZ.frozen 3
                      have f4 := hZ.frozen 4
                      have f5 := hZ.frozen 5
                      have f6 := hZ.frozen 6
                      have f7 := hZ.frozen 7
                      have f8 := hZ.frozen 8
                      have f9 := hZ.frozen 9
                      have f10 := hZ.frozen 10
                      have f11 := hZ.frozen 11
                      have f12 := hZ.frozen 12
                      clear hZ
                      go_wp2_with fail
                      obtain ⟨WF, hWF⟩ : ∃ WF, WF = (((((((((((((wl5.setCell ⟨g + 1, 0, none⟩ ((.slice ga1 y1.length gc1))).setCell ⟨g + 1, 1, none⟩ (.string n.recv)).setCell ⟨g + 1, 2, none⟩ (.slice ma n.ms.length mc)).setCell ⟨g + 1, 3, none⟩ (.slice ba n.bys.length bc)).setCell ⟨g + 1, 4, none⟩ (.int .i64 n.wait)).setCell ⟨g + 1, 5, none⟩ (.int .i64 n.every)).setCell ⟨g + 1, 6, none⟩ (.int .i64 n.rep)).setCell ⟨g + 1, 7, none⟩ (.slice mu n.mute.length mv)).setCell ⟨g + 1, 8, none⟩ (.bool n.on)).setCell ⟨g + 1, 9, none⟩ (.slice ka n.kids.length kc)).setCell ⟨g + 1, 10, none⟩ ((.slice ga2 y2.length gc2))).setCell ⟨g + 1, 11, none⟩ ((.slice ga5 y5.length gc5))).setCell ⟨g + 1, 12, none⟩ ((.slice ga3 y3.length gc3))) := ⟨_, rfl⟩
                      rw [← hWF]
                      obtain ⟨s1, s2, s3⟩ := st13 HZl5.out ((.slice ga1 y1.length gc1)) (.string n.recv) (.slice ma n.ms.length mc) (.slice ba n.bys.length bc) (.int .i64 n.wait) (.int .i64 n.every) (.int .i64 n.rep) (.slice mu n.mute.length mv) (.bool n.on) (.slice ka n.kids.length kc) ((.slice ga2 y2.length gc2)) ((.slice ga5 y5.length gc5)) ((.slice ga3 y3.length gc3)) WF hWF
                      clear hWF c0 d0 f0 c1 d1 f1 c2 d2 f2 c3 d3 f3 c4 d4 f4 c5 d5 f5 c6 d6 f6 c7 d7 f7 c8 d8 f8 c9 d9 f9 c10 d10 f10 c11 d11 f11 c12 d12 f12
                      have hbe := s3 w.heap.size (by have := HG.out; omega) w HSE5.out.below
                      have hok : ∀ W, Keep B0 w WF W → (⟨y1, ga1, gc1, ⟨n, ma, mc, ba, bc, mu, mv, ka, kc⟩, y2, ga2, gc2, y5, ga5, gc5, y3, ga3, gc3⟩ : CfA).ok W := by
                        intro W ⟨hw1, hw2, hw3⟩
                        have m1 := HST1.out.l2
                        have m2 := HST2.out.l2
                        have m3 := HST3.out.l2
                        have m5 := HST5.out.l2
                        have m0 := HG.out
                        have o1 := (HR1_l5.out.same (fun q hq => s2 q (by omega))).sameL (fun q hq hz => hw3 q (by omega) hz)
                        have o2 := ownS_of ((HR2_l5.out.same (fun q hq => s2 q (by omega))).sameL (fun q hq hz => hw3 q (by omega) hz))
                        have o3 := (HR3_l5.out.same (fun q hq => s2 q (by omega))).sameL (fun q hq hz => hw3 q (by omega) hz)
                        have o5 := (HR5_l5.out.same (fun q hq => s2 q (by omega))).sameL (fun q hq hz => hw3 q (by omega) hz)
                        obtain ⟨k1, k2, k3, k4, k5⟩ := HK.out W hw1
                        obtain ⟨_, _, e1, r1⟩ := o1.row (ok := RuA.ok) RuA.enc_len (fun x hx => k1.2.2.1 x (pick_mem _ _ _ HLR.out.1 x (by rw [HY1.out]; exact hx)))
                        obtain ⟨_, _, e2, r2⟩ := o2.strs (fun s hs => k3.2.2.1 s (pick_mem _ _ _ HLS.out.1 s (by rw [HY2.out]; exact hs)))
                        obtain ⟨_, _, e3, r3⟩ := o5.row (ok := InA.ok) InA.enc_lenD (fun x hx => k4.2.2.1 x (pick_mem _ _ _ HLI.out.1 x (by rw [HY5.out]; exact hx)))
                        obtain ⟨_, _, e4, r4⟩ := o3.row (ok := HrA.ok) HrA.enc_len (fun x hx => k5.2.2.1 x (pick_mem _ _ _ HLH.out.1 x (by rw [HY3.out]; exact hx)))
                        simp only [Value.slice.injEq] at e1 e2 e3 e4
                        obtain ⟨rfl, _, rfl⟩ := e1
                        obtain ⟨rfl, _, rfl⟩ := e2
                        obtain ⟨rfl, _, rfl⟩ := e3
                        obtain ⟨rfl, _, rfl⟩ := e4
                        exact ⟨r1, k2, r2, r3, r4⟩
                      refine bodyPost_ret (v := .agg #[(.slice ga1 y1.length gc1), .string n.recv, .slice ma n.ms.length mc, .slice ba n.bys.length bc, .int .i64 n.wait, .int .i64 n.every, .int .i64 n.rep, .slice mu n.mute.length mv, .bool n.on, .slice ka n.kids.length kc, (.slice ga2 y2.length gc2), (.slice ga5 y5.length gc5), (.slice ga3 y3.length gc3)]) ?_ rfl ?_
                      · exact results_cell_D rfl _ _ (g + 1) _ #[(.slice ga1 y1.length gc1), .string n.recv, .slice ma n.ms.length mc, .slice ba n.bys.length bc, .int .i64 n.wait, .int .i64 n.every, .int .i64 n.rep, .slice mu n.mute.length mv, .bool n.on, .slice ka n.kids.length kc, (.slice ga2 y2.length gc2), (.slice ga5 y5.length gc5), (.slice ga3 y3.length gc3)] _ _ (by rfl) s1 Tryz.underlying31 rfl (by kernel_rfl)
                      · rw [HQ.out]
                        exact ⟨hbe, ⟨y1, ga1, gc1, ⟨n, ma, mc, ba, bc, mu, mv, ka, kc⟩, y2, ga2, gc2, y5, ga5, gc5, y3, ga3, gc3⟩, rfl, hok, HNI.out _ rfl (by rw [← HPK.out.1]; exact HY1.out.symm) (by rw [← HPK.out.2.1]; exact HY2.out.symm) (by rw [← HPK.out.2.2.1]; exact HY3.out.symm) (by rw [← HPK.out.2.2.2]; exact HY5.out.symm)⟩
end Go.Proofs.YtmhekhilgllciaaGreat
