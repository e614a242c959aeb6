/- The walk of ConfigNeeds. -/
import Derived.Test.YtkgnapojkijbgaaGreatMg7
namespace Go.Proofs.YtkgnapojkijbgaaGreat
open Go.RowKit Go.Lib Go.Sort

set_option maxHeartbeats 25600000 in
set_option maxRecDepth 100000 in
theorem needs_walk (k : CfA) (s : ByteArray) (w : World) (hk : k.ok w) (hs : s.size ≤ maxLen) : Calls Tryz.prog 4 #[.agg (kCells k), .string s] w (fun e w' => e = .returned (.bool true) ∧ Below w.heap.size w w') := by
  have hb1 := (Below.refl w.heap.size w).alloc (Nat.le_refl _) (.cells (kCells k) 31)
  have hA := Blk.new w 31 (kCells k)
  have HBIG := Lib.hid (fun W (hW : Below w.heap.size w W) => big_any k W (hk.call hW))
  have HR := Lib.hid (fun W (hW : Below w.heap.size w W) => cfgRight_any k W (hk.call hW))
  have HAL := Lib.hid (fun W => alive10_any W)
  have HK := Lib.hid hk
  obtain ⟨R, hR⟩ : ∃ R, cfgC k = R := ⟨_, rfl⟩
  have HCR := Lib.hid hR
  rw [hR] at HR
  have HB := Lib.hid hb1
  unfold maxLen at hs
  clear hb1 hk hR
  obtain ⟨ru, ua, uc, ⟨n, ma, mc, ba, bc, mu, mv, ka, kc⟩, re, ra, rc, ih, ia, ic, hr, ha, hc⟩ := k
  simp only [kCells] at HBIG HR hA HB ⊢
  go_enter Tryz.func4, Tryz.ntmps4
  go_upto_region 1 with fail
  generalize w.alloc (.cells #[.slice ua ru.length uc, .string n.recv, .slice ma n.ms.length mc, .slice ba n.bys.length bc, .int .i64 n.wait, .int .i64 n.every, .int .i64 n.rep, .slice mu n.mute.length mv, .bool n.on, .slice ka n.kids.length kc, .slice ra re.length rc, .slice ia ih.length ic, .slice ha hr.length hc] 31) = wx at *
  obtain ⟨g, hg⟩ : ∃ g, w.heap.size = g := ⟨_, rfl⟩
  have HG : Hid (w.heap.size ≤ g) := by show _ ≤ _; omega
  rw [hg] at hA ⊢
  clear hg
  have HA := Lib.hid hA
  obtain ⟨c0, c1, c2, c3, c4, c5, c6, c7, c8, c9, c10, c11, c12⟩ := hA.cells13
  clear hA
  go_upto_region 2 with fail
  obtain ⟨nm, hnm⟩ : ∃ x, s.extract 0 (min (s.size : Int) 70).toNat = x := ⟨_, rfl⟩
  simp only [hnm]
  have HNM := Lib.hid hnm
  clear hnm
  have CALLS : True := trivial
  cases R
  case false =>
    go_wp2_with (first
      | (go_at_call 5; refine (HBIG.out _ HB.out).mono ?_; rintro e w2 ⟨b, rfl, hb2, hbig⟩; have hbe := bthen HB.out hb2; obtain ⟨d0, d1, d2, d3, d4, d5, d6, d7, d8, d9, d10, d11, d12⟩ := (HA.out.call hb2).cells13)
      | (go_at_call 9; refine (HR.out _ hbe).mono ?_; rintro e w3 ⟨rfl, hb3⟩; have hbe3 := bthen hbe hb3)
      | (go_at_call 6; refine (HAL.out _).mono ?_; rintro e w4 ⟨rfl, hb4⟩))
    all_goals
      go_ret
      first
        | exact ⟨rfl, bthen hbe3 hb4⟩
        | exact ⟨rfl, bthen hbe hb4⟩
  go_upto_region 4 with (first
      | (go_at_call 5; refine (HBIG.out _ HB.out).mono ?_; rintro e w2 ⟨b, rfl, hb2, hbig⟩; have hbe := bthen HB.out hb2; obtain ⟨d0, d1, d2, d3, d4, d5, d6, d7, d8, d9, d10, d11, d12⟩ := (HA.out.call hb2).cells13)
      | (go_at_call 9; refine (HR.out _ hbe).mono ?_; rintro e w3 ⟨rfl, hb3⟩; have hbe3 := bthen hbe hb3)
      | (go_at_call 6; refine (HAL.out _).mono ?_; rintro e w4 ⟨rfl, hb4⟩))
  · go_ret
    exact ⟨rfl, bthen hbe hb4⟩
  have hl := hbig (by first | assumption | (simpa using ‹¬ b = true›))
  have hA3 := (HA.out.call hb2).call hb3
  have HB3 := Lib.hid hbe3
  have HL := Lib.hid hl
  clear hbe hbig hl hb2 hb3 HBIG c0 d0 c1 d1 c2 d2 c3 d3 c4 d4 c5 d5 c6 d6 c7 d7 c8 d8 c9 d9 c10 d10 c11 d11 c12 d12
  obtain ⟨c0, c1, c2, c3, c4, c5, c6, c7, c8, c9, c10, c11, c12⟩ := hA3.cells13
  have HA3 := Lib.hid hA3
  have hlt : g < w3.heap.size := hA3.lt
  have hne1 : g ≠ w3.heap.size := by omega
  have hne2 : w3.heap.size ≠ g := by omega
  have hne3 : g ≠ w3.heap.size + 1 := by omega
  have hne4 : w3.heap.size + 1 ≠ g := by omega
  clear hA3 HA
  go_cut [5, 6] (fun p5 p6 wy => ∃ g5 g6, p5 = .pointer (some ⟨g5, 0, none⟩) ∧ p6 = .pointer (some ⟨g6, 0, none⟩) ∧ g5 ≠ g6 ∧ w3.heap.size ≤ g5 ∧ w3.heap.size ≤ g6 ∧ Blk wy g5 31 #[.slice ua ru.length uc, .string n.recv, .slice ma n.ms.length mc, .slice ba n.bys.length bc, .int .i64 n.wait, .int .i64 n.every, .int .i64 n.rep, .slice mu n.mute.length mv, .bool n.on, .slice ka n.kids.length kc, .slice ra re.length rc, .slice ia ih.length ic, .slice ha hr.length hc] ∧ Blk wy g6 31 #[.slice ua ru.length uc, .string n.recv, .slice ma n.ms.length mc, .slice ba n.bys.length bc, .int .i64 n.wait, .int .i64 n.every, .int .i64 n.rep, .slice mu n.mute.length mv, .bool n.on, .slice ka n.kids.length kc, .slice ra re.length rc, .slice ia ih.length ic, .slice ha hr.length hc] ∧ Below w3.heap.size w3 wy)
  case first =>
    have hW1 := (Blk.new w3 31 #[.slice ua ru.length uc, .string n.recv, .slice ma n.ms.length mc, .slice ba n.bys.length bc, .int .i64 n.wait, .int .i64 n.every, .int .i64 n.rep, .slice mu n.mute.length mv, .bool n.on, .slice ka n.kids.length kc, .slice ra re.length rc, .slice ia ih.length ic, .slice ha hr.length hc]).alloc (.cells #[.slice ua ru.length uc, .string n.recv, .slice ma n.ms.length mc, .slice ba n.bys.length bc, .int .i64 n.wait, .int .i64 n.every, .int .i64 n.rep, .slice mu n.mute.length mv, .bool n.on, .slice ka n.kids.length kc, .slice ra re.length rc, .slice ia ih.length ic, .slice ha hr.length hc] 31)
    have hW2 := nbR w3 (.cells #[.slice ua ru.length uc, .string n.recv, .slice ma n.ms.length mc, .slice ba n.bys.length bc, .int .i64 n.wait, .int .i64 n.every, .int .i64 n.rep, .slice mu n.mute.length mv, .bool n.on, .slice ka n.kids.length kc, .slice ra re.length rc, .slice ia ih.length ic, .slice ha hr.length hc] 31) #[.slice ua ru.length uc, .string n.recv, .slice ma n.ms.length mc, .slice ba n.bys.length bc, .int .i64 n.wait, .int .i64 n.every, .int .i64 n.rep, .slice mu n.mute.length mv, .bool n.on, .slice ka n.kids.length kc, .slice ra re.length rc, .slice ia ih.length ic, .slice ha hr.length hc] 31
    have hW3 := balR (o := .cells #[.slice ua ru.length uc, .string n.recv, .slice ma n.ms.length mc, .slice ba n.bys.length bc, .int .i64 n.wait, .int .i64 n.every, .int .i64 n.rep, .slice mu n.mute.length mv, .bool n.on, .slice ka n.kids.length kc, .slice ra re.length rc, .slice ia ih.length ic, .slice ha hr.length hc] 31) (balR (o := .cells #[.slice ua ru.length uc, .string n.recv, .slice ma n.ms.length mc, .slice ba n.bys.length bc, .int .i64 n.wait, .int .i64 n.every, .int .i64 n.rep, .slice mu n.mute.length mv, .bool n.on, .slice ka n.kids.length kc, .slice ra re.length rc, .slice ia ih.length ic, .slice ha hr.length hc] 31) (Below.refl w3.heap.size w3))
    have HW := Lib.hid (And.intro hW1 (And.intro hW2 hW3))
    clear hW1 hW2 hW3
    go_region
    all_goals
      go_wp2_with fail
      go_meet
      first
        | exact ⟨w3.heap.size, w3.heap.size + 1, rfl, rfl, by omega, Nat.le_refl _, Nat.le_succ _, HW.out.1, HW.out.2.1, HW.out.2.2.trans ⟨rfl, rfl, rfl, Nat.le_refl _, fun _ _ => rfl⟩⟩
        | exact ⟨w3.heap.size + 1, w3.heap.size, rfl, rfl, by omega, Nat.le_succ _, Nat.le_refl _, HW.out.2.1, HW.out.1, HW.out.2.2.trans ⟨rfl, rfl, rfl, Nat.le_refl _, fun _ _ => rfl⟩⟩
  case rest =>
  obtain ⟨g5, g6, rfl, rfl, h56, hg5, hg6, hb5, hb6, hcb⟩ := hcut
  obtain ⟨cel, hcel⟩ : ∃ cel : Value → Array Value, cel = fun v => #[.slice ua ru.length uc, .string n.recv, .slice ma n.ms.length mc, .slice ba n.bys.length bc, .int .i64 n.wait, .int .i64 n.every, .int .i64 n.rep, .slice mu n.mute.length mv, .bool n.on, .slice ka n.kids.length kc, v, .slice ia ih.length ic, .slice ha hr.length hc] := ⟨_, rfl⟩
  have hset : ∀ u v, (cel u).setIfInBounds 10 v = cel v := by subst hcel; intro u v; rfl
  have hc0 : #[.slice ua ru.length uc, .string n.recv, .slice ma n.ms.length mc, .slice ba n.bys.length bc, .int .i64 n.wait, .int .i64 n.every, .int .i64 n.rep, .slice mu n.mute.length mv, .bool n.on, .slice ka n.kids.length kc, .slice ra re.length rc, .slice ia ih.length ic, .slice ha hr.length hc] = cel (.slice ra re.length rc) := by subst hcel; rfl
  have HCEL := Lib.hid hcel
  have HSET := Lib.hid hset
  rw [hc0] at hb5 hb6
  clear hcel hset hc0
  obtain ⟨i0, hi, hz0, hz1, hz2⟩ := info_parts Tryz.infoS
  have hA4 := HA3.out.call hcb
  have hBc := bthen HB3.out hcb
  have hR0 : HasStrs wc ra rc re := (show HasStrs w ra rc re from HK.out.2.2.1).call hBc
  have hn0 := OwnS.made 9 wc
  have hwd := (Below.refl wc.heap.size wc).alloc (Nat.le_refl _) (.cells #[] 9)
  have hR1 := hR0.call hwd
  have hre : re.length ≤ 18 := HL.out.2.2.1
  have hnms : nm.size ≤ maxLen := by rw [← HNM.out]; unfold maxLen; simp only [ByteArray.size_extract]; omega
  have HNMS := Lib.hid hnms
  have d10 := (hA4.call hwd).cell 10
  simp only [List.getElem?_toArray, List.getElem?_cons_succ, List.getElem?_cons_zero] at d10
  have HH5 := Lib.hid hb5
  have HH6 := Lib.hid hb6
  have HCB := Lib.hid hcb
  have HA4 := Lib.hid hA4
  have HWD := Lib.hid hwd
  clear hb5 hb6 hcb hA4 hBc hR0 hwd hnms c0 c1 c2 c3 c4 c5 c6 c7 c8 c9 c10 c11 c12 hlt hne1 hne2 hne3 hne4
  have hwz : wc.heap.size ≤ (wc.alloc (.cells #[] 9)).heap.size := HWD.out.size
  go_upto_region 6 with (first
    | (refine wpList_appL _ (by rfl) (.tmp 28) (.tmp 30) 24 (by rfl) wc.heap.size 9 i0 (.string ⟨#[]⟩) Tryz.underlying24 hi hz0 hz1 hz2 rfl (.slice (some ⟨wc.heap.size, 0, none⟩) 0 0) [] (by rfl) hn0 ra re.length rc re (by rfl) rfl hR1 (by simp only [List.length_nil]; omega) hwz ?_; intro na nn nc w8 hnn ho8 hg8 hl8; subst hnn; have hb8 := hn0.grown HWD.out (Nat.le_refl _) hwz hg8; have hz8 := hb8.size)
    | (refine wpList_pushStr w8 (by rfl) (.tmp 31) (.tmp 33) 24 (by rfl) wc.heap.size 9 i0 (.string ⟨#[]⟩) Tryz.underlying24 hi hz0 hz1 hz2 rfl _ ([] ++ re) nm (by rfl) ho8 (by rfl) (by simp only [List.nil_append]; omega) hz8 ?_; intro v9 w9 ho9 hg9; have hb9 := ho8.grown hb8 (Nat.le_refl _) hz8 hg9; obtain ⟨p9, q9, rfl, hn9, hm9⟩ := ho9.form; obtain ⟨hst, k5, k6⟩ := NdW.start HSET.out h56 hg5 hg6 HH5.out HH6.out HCB.out ho9 hb9; have f5 := k5.frozen 10; have f6 := k6.frozen 10; have x5 := k5.cell 10; have x6 := k6.cell 10; rw [HCEL.out] at x5 x6; simp only [List.getElem?_toArray, List.getElem?_cons_succ, List.getElem?_cons_zero] at x5 x6))
  (try clear d10); (try clear f5); (try clear f6); (try clear x5); (try clear x6); (try clear k5); (try clear k6); (try clear hb8); (try clear hb9); (try clear hz8); (try clear ho8); (try clear ho9); (try clear hg8); (try clear hg9); (try clear hl8); (try clear hn9); (try clear hm9); (try clear hn0); (try clear hR1); (try clear hwz); (try clear hg5); (try clear hg6); (try clear h56)
  have hlen9 : ([] ++ re ++ [nm]).length = re.length + 1 := by simp
  rw [hlen9] at hst
  clear hlen9
  obtain ⟨wf, hwf⟩ : ∃ wf, (w9.setCell ⟨g5, 10, none⟩ (.slice none 0 0)).setCell ⟨g6, 10, none⟩ (.slice p9 (re.length + 1) q9) = wf := ⟨_, rfl⟩
  rw [hwf] at hst
  simp only [hwf]
  clear hwf
  have hAf := HA3.out.call hst.be
  have e10 := hAf.cell 10
  simp only [List.getElem?_toArray, List.getElem?_cons_succ, List.getElem?_cons_zero] at e10
  obtain ⟨b, off, rfl, hcell⟩ : ∃ b off, ra = some ⟨b, off, none⟩ ∧ ∀ i (h : i < re.length), w.cell? ⟨b, off + i, none⟩ = some (.string re[i]) := by
    rcases (show HasStrs w ra rc re from HK.out.2.2.1).2.2.2 with h | ⟨b, off, h1, _, h2⟩
    · have := recv_there HCR.out
      rw [show (CfA.re _) = re from rfl, h] at this
      cases this
    · exact ⟨b, off, h1, h2⟩
  have HCE := Lib.hid hcell
  clear hcell
  go_wp2_with fail
  clear e10 hAf
  go_loopg [40, 7, 9] re.length (fun gg iv kv _ wr => ∃ (k : Nat) (V5 : Value), k + gg = re.length ∧ iv = .int .i64 (k : Int) ∧ kv = .bool (inB nm (re.take k)) ∧ NdW w3 wc.heap.size g5 g6 cel V5 (.slice p9 (re.length + 1) q9) ((re.take k).filter fun s => !decide (s = n.recv)) ([] ++ re ++ [nm]) wr)
  case atStart => exact ⟨0, _, by omega, rfl, rfl, hst⟩
  case round =>
    obtain ⟨k, V5, hkg, rfl, rfl, hnd⟩ := hrel
    clear hst
    cases gk with
    | zero =>
      obtain rfl : k = re.length := by omega
      rw [List.take_length] at hnd
      simp only [List.take_length]
      have hAr := HA3.out.call hnd.be
      have hbn := balR (o := .cells #[.slice ua ru.length uc, .string n.recv, .slice ma n.ms.length mc, .slice ba n.bys.length bc, .int .i64 n.wait, .int .i64 n.every, .int .i64 n.rep, .slice mu n.mute.length mv, .bool n.on, .slice ka n.kids.length kc, .slice (some ⟨b, off, none⟩) re.length rc, .slice ia ih.length ic, .slice ha hr.length hc] 31) (Below.refl wr.heap.size wr)
      have hS := Blk.new wr 31 #[.slice ua ru.length uc, .string n.recv, .slice ma n.ms.length mc, .slice ba n.bys.length bc, .int .i64 n.wait, .int .i64 n.every, .int .i64 n.rep, .slice mu n.mute.length mv, .bool n.on, .slice ka n.kids.length kc, .slice (some ⟨b, off, none⟩) re.length rc, .slice ia ih.length ic, .slice ha hr.length hc]
      obtain ⟨c0, c1, c2, c3, c4, c5, c6, c7, c8, c9, c10, c11, c12⟩ := hAr.cells13
      have HND := Lib.hid hnd
      have hWSZ := Nat.le_refl wr.heap.size
      clear hnd hAr
      go_upto_region 15 with fail
      obtain ⟨gs, hgs⟩ : ∃ g, wr.heap.size = g := ⟨_, rfl⟩
      obtain ⟨ws, hws⟩ : ∃ ws, wr.alloc (.cells #[.slice ua ru.length uc, .string n.recv, .slice ma n.ms.length mc, .slice ba n.bys.length bc, .int .i64 n.wait, .int .i64 n.every, .int .i64 n.rep, .slice mu n.mute.length mv, .bool n.on, .slice ka n.kids.length kc, .slice (some ⟨b, off, none⟩) re.length rc, .slice ia ih.length ic, .slice ha hr.length hc] 31) = ws := ⟨_, rfl⟩
      simp only [hws] at hbn hS ⊢
      have HBN := Lib.hid hbn
      have HGS := Lib.hid hgs
      rw [hgs] at hS
      simp only [hgs]
      clear hbn hws hgs c0 c1 c2 c3 c4 c5 c6 c7 c8 c9 c10 c11 c12 hWSZ
      have x12 := hS.cell 12
      have f12 := hS.frozen 12
      simp only [List.getElem?_toArray, List.getElem?_cons_succ, List.getElem?_cons_zero] at x12
      have HS := Lib.hid hS
      clear hS
      go_upto_region 16 with fail
      have hT : Blk (ws.setCell ⟨gs, 12, none⟩ (.slice none 0 0)) gs 31 #[.slice ua ru.length uc, .string n.recv, .slice ma n.ms.length mc, .slice ba n.bys.length bc, .int .i64 n.wait, .int .i64 n.every, .int .i64 n.rep, .slice mu n.mute.length mv, .bool n.on, .slice ka n.kids.length kc, .slice (some ⟨b, off, none⟩) re.length rc, .slice ia ih.length ic, .slice none 0 0] := HS.out.set 12 (.slice none 0 0)
      have hbt : Below wr.heap.size wr (ws.setCell ⟨gs, 12, none⟩ (.slice none 0 0)) := HBN.out.setCell (p := ⟨gs, 12, none⟩) (by rw [HGS.out]; exact Nat.le_refl _) _
      obtain ⟨wt, hwt⟩ : ∃ wt, ws.setCell ⟨gs, 12, none⟩ (.slice none 0 0) = wt := ⟨_, rfl⟩
      rw [hwt] at hT hbt
      simp only [hwt]
      clear hwt x12 f12
      have hnd := HND.out.call hbt
      have HAT := Lib.hid (HA3.out.call hnd.be)
      have HT := Lib.hid hT
      have hsz : ∀ s ∈ re, s.size ≤ maxLen := (show HasStrs w _ rc re from HK.out.2.2.1).2.2.1
      obtain ⟨a5, c5, rfl, hs5⟩ := hnd.tw.1.strs (fun s hs => hsz s (List.mem_filter.1 hs).1)
      obtain ⟨a6, c6, e6, hs6⟩ := hnd.tw.2.1.strs (fun s hs => by
        simp only [List.nil_append, List.mem_append, List.mem_singleton] at hs
        rcases hs with h | rfl
        · exact hsz s h
        · exact HNMS.out)
      have e7 := Value.slice.inj e6
      clear e6
      obtain ⟨rfl, -, rfl⟩ := e7
      have hl6 : (re ++ [nm]).length = re.length + 1 := by simp
      have hnot := filter_ne_not re n.recv
      have hb5 := hnd.b5
      have hb6 := hnd.b6
      rw [HCEL.out] at hb5 hb6
      simp only [List.nil_append] at hb5 hb6 hs6
      generalize re.filter (fun s => !decide (s = n.recv)) = F at *
      have HB5 := Lib.hid hb5
      have HB6 := Lib.hid hb6
      have hbw := bthen HB3.out hnd.be
      have HBW := Lib.hid hbw
      have HC5 := Lib.hid (show ∀ W, Below wt.heap.size wt W → Calls Tryz.prog 9 #[.agg #[.slice ua ru.length uc, .string n.recv, .slice ma n.ms.length mc, .slice ba n.bys.length bc, .int .i64 n.wait, .int .i64 n.every, .int .i64 n.rep, .slice mu n.mute.length mv, .bool n.on, .slice ka n.kids.length kc, .slice a5 F.length c5, .slice ia ih.length ic, .slice ha hr.length hc]] W (BoolB false W) from fun W hW => by
        have := cfgRight_any ⟨ru, ua, uc, ⟨n, ma, mc, ba, bc, mu, mv, ka, kc⟩, F, a5, c5, ih, ia, ic, hr, ha, hc⟩ W ⟨HK.out.1.keep (hbw.trans (hW.mono hbw.size)), HK.out.2.1.call (hbw.trans (hW.mono hbw.size)), hs5.call hW, HK.out.2.2.2.1.keep (hbw.trans (hW.mono hbw.size)), HK.out.2.2.2.2.keep (hbw.trans (hW.mono hbw.size))⟩
        rw [needs_without HCR.out F a5 c5 hnot] at this
        exact this)
      have hk6 : ∀ W, Below wt.heap.size wt W → CfA.ok W ⟨ru, ua, uc, ⟨n, ma, mc, ba, bc, mu, mv, ka, kc⟩, re ++ [nm], p9, q9, ih, ia, ic, hr, ha, hc⟩ := fun W hW => ⟨HK.out.1.keep (hbw.trans (hW.mono hbw.size)), HK.out.2.1.call (hbw.trans (hW.mono hbw.size)), hs6.call hW, HK.out.2.2.2.1.keep (hbw.trans (hW.mono hbw.size)), HK.out.2.2.2.2.keep (hbw.trans (hW.mono hbw.size))⟩
      obtain ⟨W1, hW1⟩ : ∃ X, bwC nm.data.toList = X := ⟨_, rfl⟩
      obtain ⟨KN, hKN⟩ : ∃ X, inB nm re = X := ⟨_, rfl⟩
      obtain ⟨L, hL⟩ : ∃ X, decide (re.length < 16) = X := ⟨_, rfl⟩
      obtain ⟨MU, hMU⟩ : ∃ X, decide (0 < n.mute.length) = X := ⟨_, rfl⟩
      have hmore := needs_more HCR.out nm p9 q9
      rw [show (CfA.re _) = re from rfl, hW1, hKN, hL] at hmore
      have HMORE := Lib.hid hmore
      have HC6 := Lib.hid (show ∀ W, Below wt.heap.size wt W → Calls Tryz.prog 9 #[.agg #[.slice ua ru.length uc, .string n.recv, .slice ma n.ms.length mc, .slice ba n.bys.length bc, .int .i64 n.wait, .int .i64 n.every, .int .i64 n.rep, .slice mu n.mute.length mv, .bool n.on, .slice ka n.kids.length kc, .slice p9 (re.length + 1) q9, .slice ia ih.length ic, .slice ha hr.length hc]] W (BoolB (W1 && (!KN && L)) W) from fun W hW => by
        have := cfgRight_any _ W (hk6 W hW)
        rw [hmore] at this
        simp only [kCells, hl6] at this
        exact this)
      have HCS := Lib.hid (show (W1 && (!KN && L)) = true → ∀ W, Below wt.heap.size wt W → Calls Tryz.prog 12 #[.agg #[.slice ua ru.length uc, .string n.recv, .slice ma n.ms.length mc, .slice ba n.bys.length bc, .int .i64 n.wait, .int .i64 n.every, .int .i64 n.rep, .slice mu n.mute.length mv, .bool n.on, .slice ka n.kids.length kc, .slice (some ⟨b, off, none⟩) re.length rc, .slice ia ih.length ic, .slice ha hr.length hc], .agg #[.slice ua ru.length uc, .string n.recv, .slice ma n.ms.length mc, .slice ba n.bys.length bc, .int .i64 n.wait, .int .i64 n.every, .int .i64 n.rep, .slice mu n.mute.length mv, .bool n.on, .slice ka n.kids.length kc, .slice p9 (re.length + 1) q9, .slice ia ih.length ic, .slice ha hr.length hc]] W (BoolB false W) from fun hwd W hW => by
        have hsm := cfgSame_any _ _ W (HK.out.call (hbw.trans (hW.mono hbw.size))) (hk6 W hW)
        simp only [kCells, hl6] at hsm
        refine hsm.mono ?_
        rintro e w' ⟨hb, X, rfl, hx⟩
        refine ⟨?_, hb⟩
        rcases hx with ⟨_, rfl⟩ | ⟨_, _, k1, k2, h1, h2, rfl⟩
        · rfl
        · rw [more_other h1 h2])
      have HC7 := Lib.hid (show MU = true → ∀ W, Below wt.heap.size wt W → Calls Tryz.prog 9 #[.agg #[.slice ua ru.length uc, .string n.recv, .slice ma n.ms.length mc, .slice ba n.bys.length bc, .int .i64 n.wait, .int .i64 n.every, .int .i64 n.rep, .slice mu n.mute.length mv, .bool n.on, .slice ka n.kids.length kc, .slice (some ⟨b, off, none⟩) re.length rc, .slice ia ih.length ic, .slice none 0 0]] W (BoolB false W) from fun hmu W hW => by
        have := cfgRight_any ⟨ru, ua, uc, ⟨n, ma, mc, ba, bc, mu, mv, ka, kc⟩, re, _, rc, ih, ia, ic, [], none, 0⟩ W ⟨HK.out.1.keep (hbw.trans (hW.mono hbw.size)), HK.out.2.1.call (hbw.trans (hW.mono hbw.size)), (show HasStrs w _ rc re from HK.out.2.2.1).call (hbw.trans (hW.mono hbw.size)), HK.out.2.2.2.1.keep (hbw.trans (hW.mono hbw.size)), HasRow.nilN _ _ _ (Nat.zero_le _)⟩
        rw [needs_silent (k := ⟨ru, ua, uc, ⟨n, ma, mc, ba, bc, mu, mv, ka, kc⟩, re, _, rc, ih, ia, ic, hr, ha, hc⟩) (fun e => by rw [← hMU] at hmu; simp only [decide_eq_true_eq] at hmu; rw [show n.mute = [] from e] at hmu; simp at hmu) none 0] at this
        exact this)
      have hWord : ∀ W, Calls Tryz.prog 13 #[.string nm] W (BoolB W1 W) := fun W => by
        have := rbWord_any nm W HNMS.out
        rw [hW1] at this
        exact this.mono fun e w' hh => ⟨hh.1, hh.2 ▸ Below.refl _ _⟩
      have HWORD := Lib.hid hWord
      have m2 : decide ((re.length : Int) < 16) = L := by rw [← hL]; exact decide_eq_decide.2 (by omega)
      simp only [hKN]
      have HMU := Lib.hid hMU
      clear hl6 hmore hWord hW1 hKN hL hMU hk6 hs5 hs6 hsz hnot hb5 hb6 hbw hnd hbt hT
      obtain ⟨c0, c1, c2, c3, c4, c5', c6', c7, c8, c9, c10, c11, c12⟩ := HAT.out.cells13
      clear c0 c1 c2 c3 c4 c5' c6' c8 c9 c11 c12
      go_upto_region 17 with fail
      go_cut [12] (fun p12 wu => p12 = .bool (W1 && (!KN && L)) ∧ Below wt.heap.size wt wu)
      case first =>
        cases W1
        · (go_wp2_with (go_at_call 13; refine (HWORD.out _).mono ?_; rintro e w5 ⟨rfl, hb5⟩; obtain ⟨-, -, -, -, -, -, -, -, -, -, x10, -, -⟩ := (HAT.out.call hb5).cells13); go_meet; exact ⟨rfl, hb5⟩)
        · cases KN
          · (go_wp2_with (go_at_call 13; refine (HWORD.out _).mono ?_; rintro e w5 ⟨rfl, hb5⟩; obtain ⟨-, -, -, -, -, -, -, -, -, -, x10, -, -⟩ := (HAT.out.call hb5).cells13); go_meet; exact ⟨rfl, hb5⟩)
          · (go_wp2_with (go_at_call 13; refine (HWORD.out _).mono ?_; rintro e w5 ⟨rfl, hb5⟩; obtain ⟨-, -, -, -, -, -, -, -, -, -, x10, -, -⟩ := (HAT.out.call hb5).cells13); go_meet; exact ⟨rfl, hb5⟩)
      case rest =>
      obtain ⟨rfl, hbu⟩ := hcut
      simp only [HMU.out]
      have HBU := Lib.hid hbu
      obtain ⟨WD, hWD⟩ : ∃ X, (W1 && (!KN && L)) = X := ⟨_, rfl⟩
      rw [hWD] at HC6 HCS
      simp only [hWD]
      clear hbu hWD HMU HMORE HWORD m2 c7 c10
      cases WD <;> cases MU <;> (
        go_wp2_with (first
          | (go_at_call 6; refine (HAL.out _).mono ?_; rintro e w6 ⟨rfl, hb6⟩; have h6 := bthen HBU.out hb6; obtain ⟨d0, d1, d2, d3, d4, d5, d6, d7, d8, d9, d10, d11, d12⟩ := (HB5.out.call h6).cells13)
          | (go_at_call 9; (with_reducible refine (HC5.out _ h6).mono ?_); rintro e w7 ⟨rfl, hb7⟩; have h7 := bthen h6 hb7; clear d0 d1 d2 d3 d4 d5 d6 d7 d8 d9 d10 d11 d12; obtain ⟨e0, e1, e2, e3, e4, e5, e6, e7, e8, e9, e10, e11, e12⟩ := (HB6.out.call h7).cells13)
          | (go_at_call 9; (with_reducible refine (HC6.out _ h7).mono ?_); rintro e w8 ⟨rfl, hb8⟩; have h8 := bthen h7 hb8; clear e0 e1 e2 e3 e4 e5 e6 e7 e8 e9 e10 e11 e12; obtain ⟨x0, x1, x2, x3, x4, x5, x6, x7, x8, x9, x10, x11, x12⟩ := (HB6.out.call h8).cells13; obtain ⟨y0, y1, y2, y3, y4, y5, y6, y7, y8, y9, y10, y11, y12⟩ := (HAT.out.call h8).cells13; obtain ⟨z0, z1, z2, z3, z4, z5, z6, z7, z8, z9, z10, z11, z12⟩ := (HT.out.call h8).cells13)
          | (go_at_call 12; (with_reducible refine (HCS.out (by first | rfl | trivial) _ h8).mono ?_); rintro e w9 ⟨rfl, hb9⟩; have h9 := bthen h8 hb9; clear x0 x1 x2 x3 x4 x5 x6 x7 x8 x9 x10 x11 x12 y0 y1 y2 y3 y4 y5 y6 y7 y8 y9 y10 y11 y12 z0 z1 z2 z3 z4 z5 z6 z7 z8 z9 z10 z11 z12; obtain ⟨z0, z1, z2, z3, z4, z5, z6, z7, z8, z9, z10, z11, z12⟩ := (HT.out.call h9).cells13)
          | (go_at_call 9; (with_reducible refine (HC7.out (by first | rfl | trivial) _ h9).mono ?_); rintro e w10 ⟨rfl, hb10⟩; have h10 := bthen h9 hb10)
          | (go_at_call 9; (with_reducible refine (HC7.out (by first | rfl | trivial) _ h8).mono ?_); rintro e w10 ⟨rfl, hb10⟩; have h10 := bthen h8 hb10))
        go_ret
        first
          | exact ⟨rfl, bthen HBW.out h10⟩
          | exact ⟨rfl, bthen HBW.out h9⟩
          | exact ⟨rfl, bthen HBW.out h8⟩)
    | succ gg =>
      have hkl : k < re.length := by omega
      obtain ⟨s, hsk⟩ : ∃ s, re[k] = s := ⟨_, rfl⟩
      have hss : s.size ≤ maxLen := (show HasStrs w _ rc re from HK.out.2.2.1).2.2.1 s (by rw [← hsk]; exact List.getElem_mem _)
      have e0 := cellL (bthen HB3.out hnd.be) (HCE.out k hkl)
      rw [hsk] at e0
      have hts : re.take (k + 1) = re.take k ++ [s] := by rw [List.take_succ_eq_append_getElem hkl, hsk]
      have hks : inB nm (re.take (k + 1)) = (inB nm (re.take k) || decide (s = nm)) := by rw [hts]; exact anyN_snoc _ _ _
      have q1 := strEq s nm
      have q2 := strEq s n.recv
      have hFl : ((re.take k).filter fun s => !decide (s = n.recv)).length ≤ 18 := Nat.le_trans (List.length_filter_le _ _) (by rw [List.length_take]; omega)
      have a1 := (HA3.out.call hnd.be).cell 1
      simp only [List.getElem?_toArray, List.getElem?_cons_succ, List.getElem?_cons_zero] at a1
      obtain ⟨K, hK⟩ : ∃ K, inB nm (re.take k) = K := ⟨_, rfl⟩
      rw [hK] at hks ⊢
      by_cases hsr : s = n.recv
      · have hfs : (re.take (k + 1)).filter (fun s => !decide (s = n.recv)) = (re.take k).filter (fun s => !decide (s = n.recv)) := by rw [hts]; exact filter_snoc_no _ _ _ hsr
        have HKS := Lib.hid hks
        have HFS := Lib.hid hfs
        have HND := Lib.hid hnd
        rw [decide_eq_true hsr] at q2
        clear hks hfs hts hnd hsk hK hsr hss hFl
        obtain ⟨D, hD⟩ : ∃ D, decide (s = nm) = D := ⟨_, rfl⟩
        rw [hD] at HKS q1
        clear hD
        cases K <;> (
          go_wp2_with fail
          go_roundg gg
          case measure => omega
          case rel => exact ⟨k + 1, V5, by omega, by go_num, by rw [HKS.out]; rfl, by rw [HFS.out]; exact HND.out⟩)
      · have hfs : (re.take (k + 1)).filter (fun s => !decide (s = n.recv)) = (re.take k).filter (fun s => !decide (s = n.recv)) ++ [s] := by rw [hts]; exact filter_snoc_yes _ _ _ hsr
        have hbn := (Below.refl wr.heap.size wr).alloc (Nat.le_refl _) (.cells #[.string s] 9)
        have hs1 := strs1N wr s hss
        have hnn := hnd.call hbn
        have b10 := hnd.b5.cell 10
        rw [HCEL.out] at b10
        simp only [List.getElem?_toArray, List.getElem?_cons_succ, List.getElem?_cons_zero] at b10
        have hown := hnn.tw.1
        have hwsz := hnn.sz
        have HKS := Lib.hid hks
        have HFS := Lib.hid hfs
        have HNN := Lib.hid hnn
        have HFL := Lib.hid hFl
        rw [decide_eq_false hsr] at q2
        clear hks hfs hts hnd hsk hK hsr hss hnn hbn hFl
        generalize (re.take k).filter (fun s => !decide (s = n.recv)) = F at *
        obtain ⟨D, hD⟩ : ∃ D, decide (s = nm) = D := ⟨_, rfl⟩
        rw [hD] at HKS q1
        clear hD
        cases K <;> (
          go_wp2_with (refine wpList_appL _ (by rfl) (.tmp 56) (.tmp 58) 24 (by rfl) wc.heap.size 9 i0 (.string ⟨#[]⟩) Tryz.underlying24 hi hz0 hz1 hz2 rfl V5 F (by rfl) hown (some ⟨wr.heap.size, 0, none⟩) 1 1 [s] (by rfl) rfl hs1 (by have := HFL.out; simp only [List.length_cons, List.length_nil]; omega) hwsz ?_; intro na nn nc wn hnn ho hg hl; subst hnn; obtain ⟨k5, k6, kb, kz⟩ := HNN.out.kept hg; have f5 := k5.frozen 10; have x5 := k5.cell 10; rw [HCEL.out] at x5; simp only [List.getElem?_toArray, List.getElem?_cons_succ, List.getElem?_cons_zero] at x5)
          have hst := HNN.out.step HSET.out ho hg hl
          have hl1 : (F ++ [s]).length = F.length + 1 := by simp
          rw [hl1] at hst
          go_roundg gg
          case measure => omega
          case rel => exact ⟨k + 1, _, by omega, by go_num, by rw [HKS.out]; rfl, by rw [HFS.out]; exact hst⟩)
theorem configNeeds_walk {w : World} (k : CfA) (hk : k.ok w) (s : ByteArray) (hs : s.size ≤ maxLen) : Calls Tryz.prog 4 #[.agg (kCells k), .string s] w (fun e w' => e = .returned (.bool true) ∧ Below w.heap.size w w') := needs_walk k s w hk hs
end Go.Proofs.YtkgnapojkijbgaaGreat
