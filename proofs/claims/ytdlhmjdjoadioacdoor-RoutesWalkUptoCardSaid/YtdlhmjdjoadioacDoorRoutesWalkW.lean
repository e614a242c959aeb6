/- RoutesWalk: for every route and all labels: the path of each route that they lead to, gone along from the top, comes to that route; with other words and times there are as many: the law's walk. -/
import Derived.Test.YtdlhmjdjoadioacDoorRteQ
import Derived.Test.YtdlhmjdjoadioacDoorRteE
import Derived.Test.YtdlhmjdjoadioacDoorRteG
import Derived.Test.YtdlhmjdjoadioacDoorRteH
import Derived.Test.YtdlhmjdjoadioacDoorRteL
namespace Go.Proofs.YtdlhmjdjoadioacDoor
open Go.RowKit

theorem cell_setG (w : World) (p : Addr) (v : Value) (x o : Nat) (hne : x ≠ p.block) : (w.setCell p v).cell? ⟨x, o, none⟩ = w.cell? ⟨x, o, none⟩ := by
  unfold World.cell?; rw [Below.heap_setCell _ _ _ _ hne]
theorem labs_setG {w : World} {a : Option Addr} {c : Nat} {ls : List Lab} {p : Addr} (h : HasLabs w a c ls) (hne : ∀ b o s, a = some ⟨b, o, s⟩ → b ≠ p.block) (v : Value) : HasLabs (w.setCell p v) a c ls := by
  obtain ⟨h1, h2, h3, h4⟩ := h
  refine ⟨h1, h2, h3, h4.imp id ?_⟩
  rintro ⟨b, off, rfl, hb, hc⟩
  refine ⟨b, off, rfl, by simpa [World.setCell] using hb, fun i hi => ?_⟩
  have hn := hne _ _ _ rfl
  rw [cell_setG _ _ _ _ _ hn, cell_setG _ _ _ _ _ hn]
  exact hc i hi
theorem Blk.setAll9 {w : World} {g : Nat} {t : TypeId} {x0 x1 x2 x3 x4 x5 x6 x7 x8 : Value} (h : Blk w g t #[x0, x1, x2, x3, x4, x5, x6, x7, x8]) (v0 v1 v2 v3 v4 v5 v6 v7 v8 : Value) : Blk (((((((((w.setCell ⟨g, 0, none⟩ v0).setCell ⟨g, 1, none⟩ v1).setCell ⟨g, 2, none⟩ v2).setCell ⟨g, 3, none⟩ v3).setCell ⟨g, 4, none⟩ v4).setCell ⟨g, 5, none⟩ v5).setCell ⟨g, 6, none⟩ v6).setCell ⟨g, 7, none⟩ v7).setCell ⟨g, 8, none⟩ v8) g t #[v0, v1, v2, v3, v4, v5, v6, v7, v8] :=
  by
  have q := ((((((((h.set 0 v0).set 1 v1).set 2 v2).set 3 v3).set 4 v4).set 5 v5).set 6 v6).set 7 v7).set 8 v8
  simp only [List.setIfInBounds_toArray, List.set_cons_zero, List.set_cons_succ] at q
  exact q
theorem Blk.setAllO {w : World} {g k : Nat} {t : TypeId} {cs : Array Value} (h : Blk w k t cs) (hne : k ≠ g) (v0 v1 v2 v3 v4 v5 v6 v7 v8 : Value) : Blk (((((((((w.setCell ⟨g, 0, none⟩ v0).setCell ⟨g, 1, none⟩ v1).setCell ⟨g, 2, none⟩ v2).setCell ⟨g, 3, none⟩ v3).setCell ⟨g, 4, none⟩ v4).setCell ⟨g, 5, none⟩ v5).setCell ⟨g, 6, none⟩ v6).setCell ⟨g, 7, none⟩ v7).setCell ⟨g, 8, none⟩ v8) k t cs :=
  ((((((((h.setO _ v0 hne).setO _ v1 hne).setO _ v2 hne).setO _ v3 hne).setO _ v4 hne).setO _ v5 hne).setO _ v6 hne).setO _ v7 hne).setO _ v8 hne
theorem below_setAll9 {B g : Nat} {w0 w : World} (h : Below B w0 w) (hg : B ≤ g) (v0 v1 v2 v3 v4 v5 v6 v7 v8 : Value) : Below B w0 (((((((((w.setCell ⟨g, 0, none⟩ v0).setCell ⟨g, 1, none⟩ v1).setCell ⟨g, 2, none⟩ v2).setCell ⟨g, 3, none⟩ v3).setCell ⟨g, 4, none⟩ v4).setCell ⟨g, 5, none⟩ v5).setCell ⟨g, 6, none⟩ v6).setCell ⟨g, 7, none⟩ v7).setCell ⟨g, 8, none⟩ v8) :=
  ((((((((h.setCell hg v0).setCell hg v1).setCell hg v2).setCell hg v3).setCell hg v4).setCell hg v5).setCell hg v6).setCell hg v7).setCell hg v8
theorem Blk.cells10 {w : World} {g : Nat} {t : TypeId} {x0 x1 x2 x3 x4 x5 x6 x7 x8 x9 : Value} (h : Blk w g t #[x0, x1, x2, x3, x4, x5, x6, x7, x8, x9]) :
    w.cell? ⟨g, 0, none⟩ = some x0 ∧ w.cell? ⟨g, 1, none⟩ = some x1 ∧ w.cell? ⟨g, 2, none⟩ = some x2 ∧ w.cell? ⟨g, 3, none⟩ = some x3 ∧ w.cell? ⟨g, 4, none⟩ = some x4 ∧ w.cell? ⟨g, 5, none⟩ = some x5 ∧ w.cell? ⟨g, 6, none⟩ = some x6 ∧ w.cell? ⟨g, 7, none⟩ = some x7 ∧ w.cell? ⟨g, 8, none⟩ = some x8 ∧ w.cell? ⟨g, 9, none⟩ = some x9 :=
  ⟨h.cell 0, h.cell 1, h.cell 2, h.cell 3, h.cell 4, h.cell 5, h.cell 6, h.cell 7, h.cell 8, h.cell 9⟩
theorem proj_mem {ts : List TgtAt} {F : List Tgt} (h : proj ts = F) {t : TgtAt} (ht : t ∈ ts) : (t.1.data.toList, t.2.n) ∈ F := by
  rw [← h]
  exact List.mem_map.2 ⟨t, ht, rfl⟩
def RtAt.chg (q : RtAt) : RtAt := ⟨q.n.chg, q.ma, q.mc, none, 0, none, 0, q.ka, q.kc⟩
theorem chg_cells (n : Rt) (ma ba ua ka : Option Addr) (mc bc uc kc : Nat) : tCells (RtAt.chg ⟨n, ma, mc, ba, bc, ua, uc, ka, kc⟩) = #[.string n.recv, .slice ma n.ms.length mc, .slice none 0 0, .int .i64 0, .int .i64 1, .int .i64 n.rep, .slice none 0 0, .bool n.on, .slice ka n.kids.length kc] := by cases n; rfl
theorem RtAt.ok.chg {w : World} {q : RtAt} (h : q.ok w) : q.chg.ok w := by
  have h1 := h.own
  have h2 := h.rts
  obtain ⟨⟨r, m, b, a, e, p, u, o, k⟩, ma, mc, ba, bc, ua, uc, ka, kc⟩ := q
  obtain ⟨a0, _, _, a3, a4, a5, _, _⟩ := h1
  exact RtAt.of_rts ⟨a0, HasStrs.nil w none 0 (Nat.zero_le _), HasStrs.nil w none 0 (Nat.zero_le _), a3, ⟨by show (Lit.int .i64 0).wf = true; decide, by show (Lit.int .i64 1).wf = true; decide, a4.2.2⟩, a5, Nat.zero_le _, Nat.zero_le _⟩ h2
theorem idxP {P : Program} {t : TypeId} (W : World) (s : ByteArray) (k : Nat) (hk : k < s.size) (ht : P.underlying t = some .string) :
    (Instr.index t (.string s) (.int .i64 (k : Int))).run P W = .ok (.int .u8 ((s[k]'hk).toNat : Int)) W := by
  simp [Instr.index, run_underlying ht, asIntOf, hk, go_sem]
theorem bare_like (q : RtAt) (t : RtAt) (h : q.n.bare = t.n) : q.bare.n = t.n ∧ q.bare.n.kids = [] := ⟨h, (bare_is q.n).2.2.2.2.2.2.2.2⟩
theorem bare_cells (q : RtAt) : tCells q.bare = #[.string q.n.recv, .slice q.ma q.n.ms.length q.mc, .slice q.ba q.n.bys.length q.bc, .int .i64 q.n.wait, .int .i64 q.n.every, .int .i64 q.n.rep, .slice q.ua q.n.mute.length q.uc, .bool q.n.on, .slice none 0 0] := by
  obtain ⟨⟨r, m, b, a, e, p, u, o, k⟩, ma, mc, ba, bc, ua, uc, ka, kc⟩ := q
  rfl

set_option maxHeartbeats 12800000 in
set_option maxRecDepth 100000 in
theorem routesWalk_walk {w : World} (q : RtAt) (hq : q.ok w) (a : Option Addr) (len c : Nat) (ls : List Lab) (hL0 : ls.length = len ∧ HasLabs w a c ls) :
    Calls Tryd.prog 3 #[.agg (tCells q), .slice a len c] w (BoolB true w) := by
  obtain ⟨rfl, hL⟩ := hL0
  have hb0 := (Below.refl w.heap.size w).alloc (Nat.le_refl _) (.cells (tCells q) 26)
  have hB0 := Blk.new w 26 (tCells q)
  have hfew := few_any a c ls _ (hL.call hb0)
  have hmany := fun W (hW : Below w.heap.size w W) => many_any hq W 60 hW (by omega)
  rw [show ((60 : Nat) : Int) = 60 from rfl] at hmany
  obtain ⟨Lf, hLf⟩ : ∃ Lf, fewL ls = Lf := ⟨_, rfl⟩
  rw [hLf] at hfew
  have HQ := Lib.hid hq
  have HFEW := Lib.hid hfew
  have HMANY := Lib.hid hmany
  have HB0 := Lib.hid hb0
  clear hfew hmany hq hL hLf hb0
  obtain ⟨n, ma, mc, ba, bc, ua, uc, ka, kc⟩ := q
  have HFIND := Lib.hid (fun W (hW : Below w.heap.size w W) (hc : n.count ≤ 60) a1 c1 (hl : HasLabs W a1 c1 Lf) => find_any ⟨n, ma, mc, ba, bc, ua, uc, ka, kc⟩ a1 c1 Lf W (HQ.out.call hW) hl (by show n.count ≤ 100000; omega))
  have HCHG := Lib.hid (fun W (hW : Below w.heap.size w W) (hc : n.count ≤ 60) a1 c1 (hl : HasLabs W a1 c1 Lf) => find_any (RtAt.chg ⟨n, ma, mc, ba, bc, ua, uc, ka, kc⟩) a1 c1 Lf W (HQ.out.chg.call hW) hl (by show n.chg.count ≤ 100000; rw [chg_count]; omega))
  simp only [chg_cells] at HCHG
  simp only [tCells] at hB0 HFEW HMANY HB0 HFIND ⊢
  go_enter Tryd.func3, Tryd.ntmps3
  go_upto_region 1 with fail
  generalize w.alloc (.cells #[.string n.recv, .slice ma n.ms.length mc, .slice ba n.bys.length bc, .int .i64 n.wait, .int .i64 n.every, .int .i64 n.rep, .slice ua n.mute.length uc, .bool n.on, .slice ka n.kids.length kc] 26) = w1 at *
  go_upto_region 2 with (go_at_call 5; refine HFEW.out.mono ?_; rintro e w2 ⟨a1, c1, rfl, hL2, hfr2, hb2⟩)
  have hB2 := hB0.call hb2
  have hbw2 := bthen HB0.out hb2
  obtain ⟨c0, c1', c2, c3, c4, c5, c6, c7, c8⟩ := hB2.cells9
  go_cut [20] (fun v wy => ∃ z : Nat, v = .bool (decide (60 < (z : Int))) ∧ (z ≤ 60 → z = n.count) ∧ Below w2.heap.size w2 wy)
  case first =>
    go_wp2_with (go_at_call 6; refine (HMANY.out _ hbw2).mono ?_; rintro e w3 ⟨z, rfl, hz1, hz2, hz3, hb3⟩)
    go_meet
    exact ⟨z, rfl, hz3, hb3⟩
  case rest =>
  obtain ⟨z, rfl, hz3, hb3⟩ := hcut
  obtain ⟨w3, hw3⟩ : ∃ W, W = wc := ⟨_, rfl⟩
  subst hw3
  clear c0 c1' c2 c3 c4 c5 c6 c7 c8
  have hbw3 := bthen hbw2 hb3
  by_cases hz60 : z ≤ 60
  case neg =>
    have hd : decide (60 < (z : Int)) = true := decide_eq_true (by omega)
    rw [hd]
    have HBW := Lib.hid hbw3
    clear hd hz60 hz3
    go_wp2_with (go_at_call 7; refine (alive_any _).mono ?_; rintro e w4 ⟨rfl, hb4⟩)
    go_ret
    exact ⟨rfl, bthen HBW.out hb4⟩
  case pos =>
  have hd : decide (60 < (z : Int)) = false := decide_eq_false (by omega)
  rw [hd]
  have hcnt : n.count ≤ 60 := by have := hz3 hz60; omega
  have hB3 := hB2.call hb3
  have hL3 := hL2.call hb3
  obtain ⟨c0, c1', c2, c3, c4, c5, c6, c7, c8⟩ := hB3.cells9
  have hf1 := HFIND.out w3 hbw3 hcnt a1 c1 hL3
  have HF1 := Lib.hid hf1
  have HBW3 := Lib.hid hbw3
  have HL3 := Lib.hid hL3
  have HCNT := Lib.hid hcnt
  clear hd hz60 hz3 hbw2 hbw3 hb2 hb3 hL2 hL3 hfr2 hB2 hB0 hf1 hcnt HFIND HFEW HMANY
  go_upto_region 5 with (go_at_call 8; refine HF1.out.mono ?_; rintro e w4 (⟨hfc, rfl, hb4⟩ | ⟨hfc, ta, tc, ts, rfl, hpt, htt, hb4⟩))
  · skip
    go_wp2_with (go_at_call 7; refine (alive_any _).mono ?_; rintro e w9 ⟨rfl, hb9⟩)
    go_ret
    exact ⟨rfl, bthen HBW3.out (bthen hb4 hb9)⟩
  · skip
    have hfc' : rteC n = true ∧ rightC Lf = true := by
      unfold findC at hfc
      rw [Bool.and_eq_true] at hfc
      exact hfc
    have hne : ts ≠ [] := fun e => by
      rw [e] at hpt
      exact Rt.find_some Lf [] n hpt.symm
    have hB4 := hB3.call hb4
    have hbw4 := bthen HBW3.out hb4
    have hL4 := HL3.out.call hb4
    have hlen : n.chg.find Lf [] = n.chg.find Lf [] := rfl
    have hf2 := fun W (hW : Below w4.heap.size w4 W) => (HCHG.out W (bthen hbw4 hW) HCNT.out a1 c1 (hL4.call hW)).mono (fun e w8 (h : FindP _ _ _ e w8) => (show ∃ ua2 uc2, e = .returned (.tuple #[.slice ua2 ts.length uc2, .int .i64 0]) ∧ Below _ _ w8 from by
      rcases h with ⟨h0, _, _⟩ | ⟨_, ua2, uc2, us, h1, h2, _, h4⟩
      · exfalso
        have : findC n.chg Lf = true := by unfold findC; rw [chg_right hfc'.1, hfc'.2]; rfl
        rw [show findC (RtAt.chg ⟨n, ma, mc, ba, bc, ua, uc, ka, kc⟩).n Lf = findC n.chg Lf from rfl, this] at h0
        cases h0
      · have e1 : us.length = ts.length := by
          rw [← proj_len us, ← proj_len ts, h2, hpt]
          exact chg_find Lf n
        exact ⟨ua2, uc2, by rw [← e1]; exact h1, h4⟩))
    have HPW := Lib.hid (fun t (ht : t ∈ ts) => walk_root (d := 4) hfc'.1 (proj_mem hpt ht))
    have HPATH := Lib.hid (fun t (ht : t ∈ ts) => (show t.1.size ≤ 12 by
      have := Rt.find_path Lf n 4 [] hfc'.1 _ (proj_mem hpt ht)
      simpa using this))
    obtain ⟨ht1, ht2, ht3, ht4⟩ := htt
    obtain ⟨tb, tof, rfl, _, htc⟩ : ∃ b off, ta = some ⟨b, off, none⟩ ∧ b < w4.heap.size ∧ ∀ i (h : i < ts.length), TgtLies w4 b (off + i * 10) ts[i] := ht4.resolve_left hne
    have HT := Lib.hid htc
    have HT3 := Lib.hid ht3
    have HF2 := Lib.hid hf2
    have HBW4 := Lib.hid hbw4
    have HBOX := Lib.hid (fun W (hW : Below w4.heap.size w4 W) => (hB4.call hW).cells9)
    unfold maxLen at ht2
    clear hlen hf2 htc ht3 ht4 hne hpt hfc hfc' hB3 hB4 hbw4 hL4 hb4 HF1 HCHG HL3 HBW3 HCNT
    clear c0 c1' c2 c3 c4 c5 c6 c7 c8
    go_wp2_with fail
    go_loopg [38, 8, 9, 10, 11, 12] ts.length (fun gg iv _ _ _ _ _ wr => ∃ k : Nat, k + gg = ts.length ∧ iv = .int .i64 (k : Int) ∧ Below w4.heap.size w4 wr)
    case atStart => exact ⟨0, by omega, rfl, Below.refl _ _⟩
    case round =>
      obtain ⟨k, hkg, rfl, hbr⟩ := hrel
      cases gk with
      | zero =>
        obtain rfl : k = ts.length := by omega
        obtain ⟨c0, c1', c2, c3, c4, c5, c6, c7, c8⟩ := HBOX.out _ hbr
        have hba := (Below.refl wr.heap.size wr).alloc (Nat.le_refl _) (.cells #[.string n.recv, .slice ma n.ms.length mc, .slice none 0 0, .int .i64 0, .int .i64 1, .int .i64 n.rep, .slice none 0 0, .bool n.on, .slice ka n.kids.length kc] 26)
        have hf3 := HF2.out _ (bthen hbr hba)
        obtain ⟨o0, o1, o2, o3, o4, o5, o6, o7, o8⟩ := (Blk.new wr 26 #[.string n.recv, .slice ma n.ms.length mc, .slice none 0 0, .int .i64 0, .int .i64 1, .int .i64 n.rep, .slice none 0 0, .bool n.on, .slice ka n.kids.length kc]).cells9
        have HF3 := Lib.hid hf3
        have HBA := Lib.hid (bthen HBW4.out (bthen hbr hba))
        clear hba hf3 hbr HF2 HPW HPATH HT HT3 HBOX HBW4
        go_upto_region 28 with fail
        generalize wr.alloc (.cells #[.string n.recv, .slice ma n.ms.length mc, .slice none 0 0, .int .i64 0, .int .i64 1, .int .i64 n.rep, .slice none 0 0, .bool n.on, .slice ka n.kids.length kc] 26) = wq at *
        go_wp2_with (first
          | (go_at_call 8; refine HF3.out.mono ?_; rintro e w8 ⟨ua2, uc2, rfl, hb8⟩)
          | (go_at_call 7; refine (alive_any _).mono ?_; rintro e w9 ⟨rfl, hb9⟩))
        go_ret
        exact ⟨rfl, bthen HBA.out (bthen hb8 hb9)⟩
      | succ gg0 =>
        have hkl : k < ts.length := by omega
        obtain ⟨Wr, hWr⟩ : ∃ W, W = wr := ⟨_, rfl⟩
        subst hWr
        obtain ⟨c0, c1', c2, c3, c4, c5, c6, c7, c8⟩ := HBOX.out _ hbr
        have htl := HT.out k hkl
        have hpw := HPW.out _ (List.getElem_mem hkl)
        have hp12 := HPATH.out _ (List.getElem_mem hkl)
        have hto := (HT3.out _ (List.getElem_mem hkl)).own
        generalize ts[k] = t at *
        obtain ⟨tp, tq⟩ := t
        simp only at hpw hp12 hto
        obtain ⟨M, hM, hMb⟩ := hpw
        have t0 := cellL hbr htl.1
        obtain ⟨tl0, tl1, tl2, tl3, tl4, tl5, tl6, tl7, tl8⟩ := htl.2
        have t1 := cellL hbr tl0
        have t2 := cellL hbr tl1
        have t3 := cellL hbr tl2
        have t4 := cellL hbr tl3
        have t5 := cellL hbr tl4
        have t6 := cellL hbr tl5
        have t7 := cellL hbr tl6
        have t8 := cellL hbr tl7
        have t9 := cellL hbr tl8
        have hz1 : (Wr.alloc (.cells #[.string tp, .string tq.n.recv, .slice tq.ma tq.n.ms.length tq.mc, .slice tq.ba tq.n.bys.length tq.bc, .int .i64 tq.n.wait, .int .i64 tq.n.every, .int .i64 tq.n.rep, .slice tq.ua tq.n.mute.length tq.uc, .bool tq.n.on, .slice tq.ka tq.n.kids.length tq.kc] 36)).heap.size = Wr.heap.size + 1 := by simp
        have hba := (Below.refl Wr.heap.size Wr).alloc (Nat.le_refl _) (.cells #[.string tp, .string tq.n.recv, .slice tq.ma tq.n.ms.length tq.mc, .slice tq.ba tq.n.bys.length tq.bc, .int .i64 tq.n.wait, .int .i64 tq.n.every, .int .i64 tq.n.rep, .slice tq.ua tq.n.mute.length tq.uc, .bool tq.n.on, .slice tq.ka tq.n.kids.length tq.kc] 36)
        have hbn := hba.alloc (by omega) (.cells #[.string n.recv, .slice ma n.ms.length mc, .slice ba n.bys.length bc, .int .i64 n.wait, .int .i64 n.every, .int .i64 n.rep, .slice ua n.mute.length uc, .bool n.on, .slice ka n.kids.length kc] 26)
        obtain ⟨d0, d1, d2, d3, d4, d5, d6, d7, d8⟩ := HBOX.out _ (bthen hbr hba)
        have hBt0 := (Blk.new Wr 36 #[.string tp, .string tq.n.recv, .slice tq.ma tq.n.ms.length tq.mc, .slice tq.ba tq.n.bys.length tq.bc, .int .i64 tq.n.wait, .int .i64 tq.n.every, .int .i64 tq.n.rep, .slice tq.ua tq.n.mute.length tq.uc, .bool tq.n.on, .slice tq.ka tq.n.kids.length tq.kc]).alloc (.cells #[.string n.recv, .slice ma n.ms.length mc, .slice ba n.bys.length bc, .int .i64 n.wait, .int .i64 n.every, .int .i64 n.rep, .slice ua n.mute.length uc, .bool n.on, .slice ka n.kids.length kc] 26)
        have hBa0 := Blk.new (Wr.alloc (.cells #[.string tp, .string tq.n.recv, .slice tq.ma tq.n.ms.length tq.mc, .slice tq.ba tq.n.bys.length tq.bc, .int .i64 tq.n.wait, .int .i64 tq.n.every, .int .i64 tq.n.rep, .slice tq.ua tq.n.mute.length tq.uc, .bool tq.n.on, .slice tq.ka tq.n.kids.length tq.kc] 36)) 26 #[.string n.recv, .slice ma n.ms.length mc, .slice ba n.bys.length bc, .int .i64 n.wait, .int .i64 n.every, .int .i64 n.rep, .slice ua n.mute.length uc, .bool n.on, .slice ka n.kids.length kc]
        rw [hz1] at hBa0
        have HBR := Lib.hid hbr
        have HTO := Lib.hid hto
        have HM := Lib.hid hM
        have HMB := Lib.hid hMb
        have HKG := Lib.hid hkg
        simp only at tl0 tl1 tl2 tl3 tl4 tl5 tl6 tl7 tl8
        clear htl tl0 tl1 tl2 tl3 tl4 tl5 tl6 tl7 tl8 hba hz1 hbr hto hM hMb HF2 HPW HPATH HT HT3
        go_upto_region 11 with fail
        generalize (Wr.alloc (.cells #[.string tp, .string tq.n.recv, .slice tq.ma tq.n.ms.length tq.mc, .slice tq.ba tq.n.bys.length tq.bc, .int .i64 tq.n.wait, .int .i64 tq.n.every, .int .i64 tq.n.rep, .slice tq.ua tq.n.mute.length tq.uc, .bool tq.n.on, .slice tq.ka tq.n.kids.length tq.kc] 36)).alloc (.cells #[.string n.recv, .slice ma n.ms.length mc, .slice ba n.bys.length bc, .int .i64 n.wait, .int .i64 n.every, .int .i64 n.rep, .slice ua n.mute.length uc, .bool n.on, .slice ka n.kids.length kc] 26) = wn at *
        clear c0 c1' c2 c3 c4 c5 c6 c7 c8 d0 d1 d2 d3 d4 d5 d6 d7 d8 t0 t1 t2 t3 t4 t5 t6 t7 t8 t9
        have p0 := hBt0.cells10.1
        go_wp2_with fail
        clear p0
        go_loopg [12, 10, 11] (tp.size + 1) (fun gi iv nv ov wi => ∃ (i nn : Nat) (op : Bool) (qa : RtAt), i + gi = tp.size + 1 ∧ iv = .int .i64 (i : Int) ∧ nv = .int .i64 (nn : Int) ∧ ov = .bool op ∧ nn < 10 ^ i ∧ qa.ok w ∧ Blk wi (Wr.heap.size + 1) 26 (tCells qa) ∧ Blk wi Wr.heap.size 36 #[.string tp, .string tq.n.recv, .slice tq.ma tq.n.ms.length tq.mc, .slice tq.ba tq.n.bys.length tq.bc, .int .i64 tq.n.wait, .int .i64 tq.n.every, .int .i64 tq.n.rep, .slice tq.ua tq.n.mute.length tq.uc, .bool tq.n.on, .slice tq.ka tq.n.kids.length tq.kc] ∧ Below Wr.heap.size Wr wi ∧
          Hid ((i ≤ tp.size → finish qa.n nn op (tp.data.toList.drop i) = some M) ∧ (tp.size < i → qa.n = M)))
        case atStart => exact ⟨0, 0, false, ⟨n, ma, mc, ba, bc, ua, uc, ka, kc⟩, by omega, rfl, rfl, rfl, by simp, HQ.out, hBa0, hBt0, hbn, Lib.hid ⟨fun _ => by rw [List.drop_zero]; exact HM.out, fun h => by omega⟩⟩
        case round =>
          obtain ⟨i, nn, op, qa, hig, rfl, rfl, rfl, hnn, hoka, hBa, hBt, hbi, HFIN⟩ := hrel
          have HOKA := Lib.hid hoka
          cases gk with
          | zero =>
            obtain rfl : i = tp.size + 1 := by omega
            have hMq : qa.n = M := HFIN.out.2 (by omega)
            obtain ⟨hq1, hq2⟩ := bare_like qa tq (by rw [hMq]; exact HMB.out)
            have hd : ¬ ((tp.size : Int) + 1 ≤ (tp.size : Int)) := by omega
            have f8 := hBa.frozen 8
            obtain ⟨_, _, _, _, _, _, _, _, c8⟩ := hBa.cells9
            have p0 := hBt.cells10.1
            have hB8 := hBa.set9 (.slice none 0 0)
            have hT8 := hBt.setO ⟨Wr.heap.size + 1, 8, none⟩ (.slice none 0 0) (by show Wr.heap.size ≠ Wr.heap.size + 1; omega)
            have hb8 := hbi.setCell (p := ⟨Wr.heap.size + 1, 8, none⟩) (by show Wr.heap.size ≤ Wr.heap.size + 1; omega) (.slice none 0 0)
            have hbw8 := bthen HBR.out hb8
            have hlk := rLikeFlat_any qa.bare tq hq1 hq2 _ ((RtAt.bare_ok HOKA.out.own).own.call (bthen HBW4.out hbw8)) (HTO.out.call hbw8)
            rw [bare_cells] at hlk
            simp only [tCells] at hlk
            have HLK := Lib.hid hlk
            have HBW8 := Lib.hid hbw8
            clear hlk hbw8 hb8 hbi hBa hBt hnn hoka hMq hq1 hq2 HFIN HM HMB
            go_upto_region 23 with fail
            clear f8 c8 p0 hd
            generalize wr.setCell ⟨Wr.heap.size + 1, 8, none⟩ (.slice none 0 0) = w7 at *
            obtain ⟨c0, c1', c2, c3, c4, c5, c6, c7, c8⟩ := hB8.cells9
            obtain ⟨p0, p1, p2, p3, p4, p5, p6, p7, p8, p9⟩ := hT8.cells10
            go_wp2_with (go_at_call 9; refine HLK.out.mono ?_; rintro e w8 ⟨rfl, hb8⟩)
            go_roundg gg0
            case measure => omega
            case rel => exact ⟨k + 1, by have := HKG.out; omega, by go_num, bthen HBW8.out hb8⟩
          | succ gi =>
            have hWI := bthen HBW4.out (bthen HBR.out hbi)
            have HWI := Lib.hid hWI
            have hle : (i : Int) ≤ (tp.size : Int) := by omega
            have p0 := hBt.cells10.1
            obtain ⟨c0, c1', c2, c3, c4, c5, c6, c7, c8⟩ := hBa.cells9
            have f0 := hBa.frozen 0; have f1 := hBa.frozen 1; have f2 := hBa.frozen 2; have f3 := hBa.frozen 3; have f4 := hBa.frozen 4; have f5 := hBa.frozen 5; have f6 := hBa.frozen 6; have f7 := hBa.frozen 7; have f8 := hBa.frozen 8
            have hi13 : i ≤ 12 := by omega
            have hnb : nn < 1000000000000 := Nat.lt_of_lt_of_le hnn (Nat.pow_le_pow_right (by omega) hi13)
            by_cases hi : i < tp.size
            · have hlt : (i : Int) < (tp.size : Int) := by omega
              have hidx := fun W => idxP (P := Tryd.prog) W tp i hi Tryd.underlying9
              have hlen : tp.data.toList.length = tp.size := rfl
              have fa := finish_at qa.n nn op tp.data.toList i hi (HFIN.out.1 (by omega))
              rw [show tp.data.toList[i]'hi = tp[i]'hi from rfl] at fa
              generalize (tp[i]'hi).toNat = cN at *
              rcases fa with ⟨rfl, b, hcl, hfn⟩ | ⟨hne, h48, h57, hfn⟩
              · clear hWI hoka HFIN
                cases op with
                | false =>
                  obtain rfl : b = qa.n := by
                    have := hcl
                    simp only [closeS, Bool.false_eq_true, if_false, Option.some.injEq] at this
                    exact this.symm
                  have HFN := Lib.hid hfn
                  clear hcl hfn
                  go_wp2_with fail
                  go_roundg gi
                  case measure => omega
                  case rel => exact ⟨i + 1, 0, false, qa, by omega, by go_num, rfl, rfl, Nat.pow_pos (by omega), HOKA.out, hBa, hBt, hbi, Lib.hid ⟨fun _ => HFN.out, fun h => by omega⟩⟩
                | true =>
                  obtain ⟨hnk, hbk⟩ : ∃ h : nn < qa.n.kids.length, qa.n.kids[nn] = b := by
                    have := hcl
                    simp only [closeS, if_true] at this
                    exact List.getElem?_eq_some_iff.1 this
                  obtain ⟨kb, kof, hka, _, hkk⟩ := (HOKA.out.place).resolve_left (fun e => by rw [e] at hnk; simp at hnk)
                  obtain ⟨qb, hqb, hlb, hokb⟩ := hkk nn hnk
                  obtain ⟨e0, e1, e2, e3, e4, e5, e6, e7, e8⟩ := hlb.call HWI.out
                  have hkc := HOKA.out.head.2
                  unfold maxLen at hkc
                  rw [hbk] at hqb
                  have HB2 := Lib.hid (hBa.setAll9 (.string qb.n.recv) (.slice qb.ma qb.n.ms.length qb.mc) (.slice qb.ba qb.n.bys.length qb.bc) (.int .i64 qb.n.wait) (.int .i64 qb.n.every) (.int .i64 qb.n.rep) (.slice qb.ua qb.n.mute.length qb.uc) (.bool qb.n.on) (.slice qb.ka qb.n.kids.length qb.kc))
                  have HT2 := Lib.hid (hBt.setAllO (g := Wr.heap.size + 1) (by omega) (.string qb.n.recv) (.slice qb.ma qb.n.ms.length qb.mc) (.slice qb.ba qb.n.bys.length qb.bc) (.int .i64 qb.n.wait) (.int .i64 qb.n.every) (.int .i64 qb.n.rep) (.slice qb.ua qb.n.mute.length qb.uc) (.bool qb.n.on) (.slice qb.ka qb.n.kids.length qb.kc))
                  have HBI2 := Lib.hid (below_setAll9 hbi (g := Wr.heap.size + 1) (by omega) (.string qb.n.recv) (.slice qb.ma qb.n.ms.length qb.mc) (.slice qb.ba qb.n.bys.length qb.bc) (.int .i64 qb.n.wait) (.int .i64 qb.n.every) (.int .i64 qb.n.rep) (.slice qb.ua qb.n.mute.length qb.uc) (.bool qb.n.on) (.slice qb.ka qb.n.kids.length qb.kc))
                  have HFN := Lib.hid hfn
                  have HQB := Lib.hid hqb
                  have HOKB := Lib.hid hokb
                  have hnkI : ¬ (qa.n.kids.length : Int) ≤ (nn : Int) := by omega
                  rw [hka] at c8
                  clear hcl hfn hbk hka hkk hqb hlb hokb HOKA HWI hbi hBa hBt
                  go_wp2_with fail
                  go_roundg gi
                  case measure => omega
                  case rel => exact ⟨i + 1, 0, false, qb, by omega, by go_num, rfl, rfl, Nat.pow_pos (by omega), HOKB.out, HB2.out, HT2.out, HBI2.out, Lib.hid ⟨fun _ => by rw [HQB.out]; exact HFN.out, fun h => by omega⟩⟩
              · have hne' : (((cN : Nat) : Int) != 46) = true := by rw [bne_iff_ne]; omega
                have k1 : IntKind.u8.wrap ((cN : Int) - 48) = ((cN - 48 : Nat) : Int) := by
                  rw [IntWalk.u8_in _ (by omega)]; omega
                have hc9 : cN - 48 ≤ 9 := by omega
                have hpw : 10 * nn + (cN - 48) < 10 ^ (i + 1) := by
                  rw [Nat.pow_succ]
                  generalize 10 ^ i = P at *
                  omega
                obtain ⟨dg, hdg⟩ : ∃ dg, cN - 48 = dg := ⟨_, rfl⟩
                rw [hdg] at k1 hc9 hfn hpw
                have HFN := Lib.hid hfn
                have HPW := Lib.hid hpw
                clear hWI hfn hpw hdg h48 h57 hne hoka HFIN hnn f0 f1 f2 f3 f4 f5 f6 f7 f8
                go_wp2_with fail
                go_roundg gi
                case measure => omega
                case rel => exact ⟨i + 1, 10 * nn + dg, true, qa, by omega, by go_num, by go_num, rfl, HPW.out, HOKA.out, hBa, hBt, hbi, Lib.hid ⟨fun _ => HFN.out, fun h => by omega⟩⟩
            · have hlt : ¬ ((i : Int) < (tp.size : Int)) := by omega
              have hfe := HFIN.out.1 (by omega)
              rw [show tp.data.toList.drop i = [] from List.drop_eq_nil_of_le (by show tp.size ≤ i; omega)] at hfe
              have hcl : closeS qa.n nn op = some M := by simpa only [finish] using hfe
              obtain ⟨b, hend⟩ : ∃ b, b = M := ⟨_, rfl⟩
              rw [← hend] at hcl
              clear hWI hoka HFIN hfe
              cases op with
              | false =>
                obtain rfl : b = qa.n := by
                  have := hcl
                  simp only [closeS, Bool.false_eq_true, if_false, Option.some.injEq] at this
                  exact this.symm
                have HFN := Lib.hid hend
                clear hcl hend
                go_wp2_with fail
                go_roundg gi
                case measure => omega
                case rel => exact ⟨i + 1, 0, false, qa, by omega, by go_num, rfl, rfl, Nat.pow_pos (by omega), HOKA.out, hBa, hBt, hbi, Lib.hid ⟨fun h => by omega, fun _ => HFN.out⟩⟩
              | true =>
                obtain ⟨hnk, hbk⟩ : ∃ h : nn < qa.n.kids.length, qa.n.kids[nn] = b := by
                  have := hcl
                  simp only [closeS, if_true] at this
                  exact List.getElem?_eq_some_iff.1 this
                obtain ⟨kb, kof, hka, _, hkk⟩ := (HOKA.out.place).resolve_left (fun e => by rw [e] at hnk; simp at hnk)
                obtain ⟨qb, hqb, hlb, hokb⟩ := hkk nn hnk
                obtain ⟨e0, e1, e2, e3, e4, e5, e6, e7, e8⟩ := hlb.call HWI.out
                have hkc := HOKA.out.head.2
                unfold maxLen at hkc
                rw [hbk] at hqb
                have HB2 := Lib.hid (hBa.setAll9 (.string qb.n.recv) (.slice qb.ma qb.n.ms.length qb.mc) (.slice qb.ba qb.n.bys.length qb.bc) (.int .i64 qb.n.wait) (.int .i64 qb.n.every) (.int .i64 qb.n.rep) (.slice qb.ua qb.n.mute.length qb.uc) (.bool qb.n.on) (.slice qb.ka qb.n.kids.length qb.kc))
                have HT2 := Lib.hid (hBt.setAllO (g := Wr.heap.size + 1) (by omega) (.string qb.n.recv) (.slice qb.ma qb.n.ms.length qb.mc) (.slice qb.ba qb.n.bys.length qb.bc) (.int .i64 qb.n.wait) (.int .i64 qb.n.every) (.int .i64 qb.n.rep) (.slice qb.ua qb.n.mute.length qb.uc) (.bool qb.n.on) (.slice qb.ka qb.n.kids.length qb.kc))
                have HBI2 := Lib.hid (below_setAll9 hbi (g := Wr.heap.size + 1) (by omega) (.string qb.n.recv) (.slice qb.ma qb.n.ms.length qb.mc) (.slice qb.ba qb.n.bys.length qb.bc) (.int .i64 qb.n.wait) (.int .i64 qb.n.every) (.int .i64 qb.n.rep) (.slice qb.ua qb.n.mute.length qb.uc) (.bool qb.n.on) (.slice qb.ka qb.n.kids.length qb.kc))
                have HFN := Lib.hid hend
                have HQB := Lib.hid hqb
                have HOKB := Lib.hid hokb
                have hnkI : ¬ (qa.n.kids.length : Int) ≤ (nn : Int) := by omega
                rw [hka] at c8
                clear hcl hend hbk hka hkk hqb hlb hokb HOKA HWI hbi hBa hBt
                go_wp2_with fail
                go_roundg gi
                case measure => omega
                case rel => exact ⟨i + 1, 0, false, qb, by omega, by go_num, rfl, rfl, Nat.pow_pos (by omega), HOKB.out, HB2.out, HT2.out, HBI2.out, Lib.hid ⟨fun h => by omega, fun _ => by rw [HQB.out]; exact HFN.out⟩⟩
end Go.Proofs.YtdlhmjdjoadioacDoor
