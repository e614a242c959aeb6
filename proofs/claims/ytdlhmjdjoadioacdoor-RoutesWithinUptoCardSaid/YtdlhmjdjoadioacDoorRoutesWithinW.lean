/- RoutesWithin: for every route and all labels: a route that is put within another one, of which all hold, leads where it led, each path one step longer: the law's walk. -/
import Derived.Test.YtdlhmjdjoadioacDoorRteP
import Derived.Test.YtdlhmjdjoadioacDoorRteE
import Derived.Test.YtdlhmjdjoadioacDoorRteG
import Derived.Test.YtdlhmjdjoadioacDoorRteH
import Derived.Test.YtdlhmjdjoadioacDoorRteL
import Derived.Test.YtdlhmjdjoadioacDoorLater
import Derived.BigQuiet
namespace Go.Proofs.YtdlhmjdjoadioacDoor
open Go.RowKit

def RtAt.noMs (q : RtAt) : RtAt := ⟨q.n.noMs, none, 0, q.ba, q.bc, q.ua, q.uc, q.ka, q.kc⟩
theorem noMs_cells (n : Rt) (ma ba ua ka : Option Addr) (mc bc uc kc : Nat) : tCells (RtAt.noMs ⟨n, ma, mc, ba, bc, ua, uc, ka, kc⟩) = #[.string n.recv, .slice none 0 0, .slice ba n.bys.length bc, .int .i64 n.wait, .int .i64 n.every, .int .i64 n.rep, .slice ua n.mute.length uc, .bool n.on, .slice ka n.kids.length kc] := by cases n; rfl
theorem RtAt.ok.noMs {w : World} {q : RtAt} (h : q.ok w) : q.noMs.ok w := by
  have h1 := h.own
  have h2 := h.rts
  obtain ⟨⟨r, m, b, a, e, p, u, o, k⟩, ma, mc, ba, bc, ua, uc, ka, kc⟩ := q
  obtain ⟨_, a1, a2, a3, a4, _, a6, a7⟩ := h1
  exact RtAt.of_rts ⟨HasMats.nil w none 0 (by unfold maxLen; omega), a1, a2, a3, a4, Nat.zero_le _, a6, a7⟩ h2
/-- the outer route, around one that lies in block b -/
def outR (q : RtAt) (b : Nat) : RtAt := ⟨.mk ⟨#[111, 117, 116, 101, 114]⟩ [] [] 0 1 1 [] false [q.n], none, 0, none, 0, none, 0, some ⟨b, 0, none⟩, 1⟩
theorem out_ok {w : World} {q : RtAt} {b : Nat} (h : q.ok w) (hb : Blk w b 26 (tCells q)) : (outR q b).ok w := by
  obtain ⟨c0, c1, c2, c3, c4, c5, c6, c7, c8⟩ := hb.cells9
  refine .of (b := b) (off := 0) ⟨⟨HasMats.nil w none 0 (by unfold maxLen; omega), HasStrs.nil w none 0 (Nat.zero_le _), HasStrs.nil w none 0 (Nat.zero_le _), by show (⟨#[111, 117, 116, 101, 114]⟩ : ByteArray).size ≤ 1048576; decide, ⟨by show (Lit.int .i64 0).wf = true; decide, by show (Lit.int .i64 1).wf = true; decide, by show (Lit.int .i64 1).wf = true; decide⟩, Nat.zero_le _, Nat.zero_le _, Nat.zero_le _⟩, Nat.le_refl _, by show 1 ≤ maxLen; unfold maxLen; omega⟩ rfl hb.lt fun i hi => ?_
  obtain rfl : i = 0 := by
    have : i < 1 := hi
    omega
  exact ⟨q, rfl, ⟨c0, c1, c2, c3, c4, c5, c6, c7, c8⟩, h⟩
theorem cell_setG (w : World) (p : Addr) (v : Value) (x o : Nat) (hne : x ≠ p.block) : (w.setCell p v).cell? ⟨x, o, none⟩ = w.cell? ⟨x, o, none⟩ := by
  unfold World.cell?; rw [Below.heap_setCell _ _ _ _ hne]
theorem labs_setG {w : World} {a : Option Addr} {c : Nat} {ls : List Lab} {p : Addr} (h : HasLabs w a c ls) (hne : ∀ b o s, a = some ⟨b, o, s⟩ → b ≠ p.block) (v : Value) : HasLabs (w.setCell p v) a c ls := by
  obtain ⟨h1, h2, h3, h4⟩ := h
  refine ⟨h1, h2, h3, h4.imp id ?_⟩
  rintro ⟨b, off, rfl, hb, hc⟩
  refine ⟨b, off, rfl, by simpa [World.setCell] using hb, fun i hi => ?_⟩
  have hn := hne _ _ _ rfl
  rw [cell_setG _ _ _ _ _ hn, cell_setG _ _ _ _ _ hn]
  exact hc i hi
theorem Blk.setM9 {w : World} {g : Nat} {t : TypeId} {x0 x1 x2 x3 x4 x5 x6 x7 x8 : Value} (h : Blk w g t #[x0, x1, x2, x3, x4, x5, x6, x7, x8]) (u : Value) : Blk (w.setCell ⟨g, 1, none⟩ u) g t #[x0, u, x2, x3, x4, x5, x6, x7, x8] := h.set 1 u
/-- two rows of targets, the one's paths a step longer -/
def Longer (us ts : List TgtAt) : Prop := us.length = ts.length ∧ ∀ i (h : i < us.length) (h' : i < ts.length), us[i].1 = ⟨#[46, 48]⟩ ++ ts[i].1 ∧ us[i].2.n = ts[i].2.n
theorem longer_of {us ts : List TgtAt} (h : proj us = (proj ts).map fun t => ([46, 48] ++ t.1, t.2)) : Longer us ts := by
  have hl : us.length = ts.length := by
    have := congrArg List.length h
    rw [List.length_map, proj_len, proj_len] at this
    exact this
  refine ⟨hl, fun i h1 h2 => ?_⟩
  have e := congrArg (·[i]?) h
  simp only [proj, List.getElem?_map, List.getElem?_eq_getElem h1, List.getElem?_eq_getElem h2, Option.map_some, Option.some.injEq, Prod.mk.injEq] at e
  exact ⟨bytes_ext (by rw [e.1]; simp), e.2⟩
theorem proj_mem {ts : List TgtAt} {F : List Tgt} (h : proj ts = F) {t : TgtAt} (ht : t ∈ ts) : (t.1.data.toList, t.2.n) ∈ F := by
  rw [← h]
  exact List.mem_map.2 ⟨t, ht, rfl⟩

set_option maxHeartbeats 12800000 in
set_option maxRecDepth 100000 in
theorem routesWithin_walk {w : World} (q : RtAt) (hq : q.ok w) (a : Option Addr) (len c : Nat) (ls : List Lab) (hL0 : ls.length = len ∧ HasLabs w a c ls) :
    Calls Tryd.prog 4 #[.agg (tCells q), .slice a len c] w (BoolB true w) := by
  obtain ⟨rfl, hL⟩ := hL0
  have hb0 := (Below.refl w.heap.size w).alloc (Nat.le_refl _) (.cells (tCells q) 26)
  have hB0 := Blk.new w 26 (tCells q)
  have hz0 : (w.alloc (.cells (tCells q) 26)).heap.size = w.heap.size + 1 := by simp
  have hfew := few_any a c ls _ (hL.call hb0)
  have hmany := fun W (hW : Below w.heap.size w W) => many_any hq W 50 hW (by omega)
  rw [show ((50 : Nat) : Int) = 50 from rfl] at hmany
  have hqn := hq.noMs
  have hcq := noMs_count q.n
  obtain ⟨Lf, hLf⟩ : ∃ Lf, fewL ls = Lf := ⟨_, rfl⟩
  rw [hLf] at hfew
  have HFEW := Lib.hid hfew
  have HMANY := Lib.hid hmany
  have HQN := Lib.hid hqn
  have HCQ := Lib.hid hcq
  have HZ0 := Lib.hid hz0
  have HB0 := Lib.hid hb0
  clear hfew hmany hqn hq hL hLf hz0 hb0 hcq
  obtain ⟨n, ma, mc, ba, bc, ua, uc, ka, kc⟩ := q
  have htc := noMs_cells n ma ba ua ka mc bc uc kc
  have hqn' : (RtAt.noMs ⟨n, ma, mc, ba, bc, ua, uc, ka, kc⟩).n = n.noMs := rfl
  generalize RtAt.noMs ⟨n, ma, mc, ba, bc, ua, uc, ka, kc⟩ = qn at *
  have HTC := Lib.hid htc
  have HNN := Lib.hid hqn'
  clear htc hqn'
  simp only [tCells] at hB0 HFEW HMANY HZ0 HB0 ⊢
  go_enter Tryd.func4, Tryd.ntmps4
  go_upto_region 1 with fail
  generalize w.alloc (.cells #[.string n.recv, .slice ma n.ms.length mc, .slice ba n.bys.length bc, .int .i64 n.wait, .int .i64 n.every, .int .i64 n.rep, .slice ua n.mute.length uc, .bool n.on, .slice ka n.kids.length kc] 26) = w1 at *
  go_upto_region 2 with (go_at_call 5; refine HFEW.out.mono ?_; rintro e w2 ⟨a1, c1, rfl, hL2, hfr2, hb2⟩)
  have hB2 := hB0.call hb2
  have hbw2 := bthen HB0.out hb2
  have hlt1 := HZ0.out
  obtain ⟨c0, c1', c2, c3, c4, c5, c6, c7, c8⟩ := hB2.cells9
  go_cut [15] (fun v wy => ∃ z : Nat, v = .bool (decide (50 < (z : Int))) ∧ (z ≤ 50 → z = n.count) ∧ Below w2.heap.size w2 wy)
  case first =>
    go_wp2_with (go_at_call 6; refine (HMANY.out _ hbw2).mono ?_; rintro e w3 ⟨z, rfl, hz1, hz2, hz3, hb3⟩)
    go_meet
    exact ⟨z, rfl, hz3, hb3⟩
  case rest =>
  obtain ⟨z, rfl, hz3, hb3⟩ := hcut
  obtain ⟨w3, hw3⟩ : ∃ W, W = wc := ⟨_, rfl⟩
  subst hw3
  clear c0 c1' c2 c3 c4 c5 c6 c7 c8
  have hbw3 := bthen hbw2 hb3
  by_cases hz50 : z ≤ 50
  case neg =>
    have hd : decide (50 < (z : Int)) = true := decide_eq_true (by omega)
    rw [hd]
    have HBW := Lib.hid hbw3
    clear hd hz50 hz3
    go_wp2_with (go_at_call 7; refine (alive_any _).mono ?_; rintro e w4 ⟨rfl, hb4⟩)
    go_ret
    exact ⟨rfl, bthen HBW.out hb4⟩
  case pos =>
  have hd : decide (50 < (z : Int)) = false := decide_eq_false (by omega)
  rw [hd]
  have hcnt : n.count ≤ 50 := by have := hz3 hz50; omega
  have hB3 := hB2.call hb3
  obtain ⟨c0, c1', c2, c3, c4, c5, c6, c7, c8⟩ := hB3.cells9
  have f1 := hB3.frozen 1
  have hB4 := hB3.setM9 (.slice none 0 0)
  have hbw4 := hbw3.setCell (p := ⟨w.heap.size, 1, none⟩) (Nat.le_refl _) (.slice none 0 0)
  have hL4 := labs_setG (p := ⟨w.heap.size, 1, none⟩) (hL2.call hb3) (fun b o s e => by have := hfr2 b o s e; show b ≠ w.heap.size; omega) (.slice none 0 0)
  have HBW4 := Lib.hid hbw4
  have HL4 := Lib.hid hL4
  clear hd hz50 hz3 hbw4 hL4 hbw2 hbw3 hb2 hb3 hL2 hfr2 hB2 hB0
  go_upto_region 5 with fail
  clear hB3 f1 c0 c1' c2 c3 c4 c5 c6 c7 c8
  generalize w3.setCell ⟨w.heap.size, 1, none⟩ (.slice none 0 0) = w4 at *
  obtain ⟨c0, c1', c2, c3, c4, c5, c6, c7, c8⟩ := hB4.cells9
  have hf1 := find_any qn a1 c1 Lf w4 (HQN.out.call HBW4.out) HL4.out (by rw [HNN.out, HCQ.out]; omega)
  rw [HTC.out, HNN.out] at hf1
  have HF1 := Lib.hid hf1
  clear hf1
  have HDEP : Hid (findC n.noMs Lf = true → rightRt 4 n.noMs = true ∧ rightC Lf = true) := Lib.hid (fun h => by
    unfold findC at h
    rw [Bool.and_eq_true] at h
    exact h)
  go_upto_region 6 with (go_at_call 8; refine HF1.out.mono ?_; rintro e w5 (⟨hfc, rfl, hb5⟩ | ⟨hfc, ta, tc, ts, rfl, hpt, htt, hb5⟩))
  · skip
    have hB5 := hB4.call hb5
    obtain ⟨c0, c1', c2, c3, c4, c5, c6, c7, c8⟩ := hB5.cells9
    have hbw5 := bthen HBW4.out hb5
    have hz5 : (w5.alloc (.cells #[.string n.recv, .slice none 0 0, .slice ba n.bys.length bc, .int .i64 n.wait, .int .i64 n.every, .int .i64 n.rep, .slice ua n.mute.length uc, .bool n.on, .slice ka n.kids.length kc] 26)).heap.size = w5.heap.size + 1 := by simp
    have hb6 := ((Below.refl w5.heap.size w5).alloc (Nat.le_refl _) (.cells #[.string n.recv, .slice none 0 0, .slice ba n.bys.length bc, .int .i64 n.wait, .int .i64 n.every, .int .i64 n.rep, .slice ua n.mute.length uc, .bool n.on, .slice ka n.kids.length kc] 26)).alloc (by simp) (.cells #[.string ⟨#[111, 117, 116, 101, 114]⟩, .slice none 0 0, .slice none 0 0, .int .i64 0, .int .i64 1, .int .i64 1, .slice none 0 0, .bool false, .slice (some ⟨w5.heap.size, 0, none⟩) 1 1] 26)
    have hK6 := (Blk.new w5 26 #[.string n.recv, .slice none 0 0, .slice ba n.bys.length bc, .int .i64 n.wait, .int .i64 n.every, .int .i64 n.rep, .slice ua n.mute.length uc, .bool n.on, .slice ka n.kids.length kc]).alloc (.cells #[.string ⟨#[111, 117, 116, 101, 114]⟩, .slice none 0 0, .slice none 0 0, .int .i64 0, .int .i64 1, .int .i64 1, .slice none 0 0, .bool false, .slice (some ⟨w5.heap.size, 0, none⟩) 1 1] 26)
    have hO6 := Blk.new (w5.alloc (.cells #[.string n.recv, .slice none 0 0, .slice ba n.bys.length bc, .int .i64 n.wait, .int .i64 n.every, .int .i64 n.rep, .slice ua n.mute.length uc, .bool n.on, .slice ka n.kids.length kc] 26)) 26 #[.string ⟨#[111, 117, 116, 101, 114]⟩, .slice none 0 0, .slice none 0 0, .int .i64 0, .int .i64 1, .int .i64 1, .slice none 0 0, .bool false, .slice (some ⟨w5.heap.size, 0, none⟩) 1 1]
    rw [hz5] at hO6
    have hbw6 := bthen hbw5 hb6
    have hL6 := (HL4.out.call hb5).call hb6
    have hok6 : (outR qn w5.heap.size).ok _ := out_ok (HQN.out.call hbw6) (by rw [HTC.out]; exact hK6)
    have hco : (outR qn w5.heap.size).n.count ≤ 100000 := by
      show Rt.count (.mk _ _ _ _ _ _ _ _ [qn.n]) ≤ 100000
      simp only [Rt.count, countRs]
      rw [HNN.out, HCQ.out]; omega
    have hf2 := find_any (outR qn w5.heap.size) a1 c1 Lf _ hok6 hL6 hco
    rw [show tCells (outR qn w5.heap.size) = #[.string ⟨#[111, 117, 116, 101, 114]⟩, .slice none 0 0, .slice none 0 0, .int .i64 0, .int .i64 1, .int .i64 1, .slice none 0 0, .bool false, .slice (some ⟨w5.heap.size, 0, none⟩) 1 1] from rfl] at hf2
    obtain ⟨o0, o1, o2, o3, o4, o5, o6, o7, o8⟩ := hO6.cells9
    have HBW6 := Lib.hid hbw6
    have HB6 := Lib.hid hb6
    have HF2 := Lib.hid hf2
    clear hb6 hK6 hO6 hbw6 hL6 hok6 hco hf2 hz5 hB5 hbw5
    go_upto_region 7 with fail
    generalize (w5.alloc (.cells #[.string n.recv, .slice none 0 0, .slice ba n.bys.length bc, .int .i64 n.wait, .int .i64 n.every, .int .i64 n.rep, .slice ua n.mute.length uc, .bool n.on, .slice ka n.kids.length kc] 26)).alloc (.cells #[.string ⟨#[111, 117, 116, 101, 114]⟩, .slice none 0 0, .slice none 0 0, .int .i64 0, .int .i64 1, .int .i64 1, .slice none 0 0, .bool false, .slice (some ⟨w5.heap.size, 0, none⟩) 1 1] 26) = w6 at *
    go_wp2_with (first
      | (go_at_call 8; refine HF2.out.mono ?_; rintro e w8 (⟨hfc2, rfl, hb8⟩ | ⟨hfc2, ua2, uc2, us, rfl, hpu, hus, hb8⟩))
      | (go_at_call 7; refine (alive_any _).mono ?_; rintro e w9 ⟨rfl, hb9⟩))
    all_goals
      go_ret
      exact ⟨rfl, bthen HBW6.out (bthen hb8 hb9)⟩
  · skip
    have hB5 := hB4.call hb5
    obtain ⟨c0, c1', c2, c3, c4, c5, c6, c7, c8⟩ := hB5.cells9
    have hbw5 := bthen HBW4.out hb5
    have hz5 : (w5.alloc (.cells #[.string n.recv, .slice none 0 0, .slice ba n.bys.length bc, .int .i64 n.wait, .int .i64 n.every, .int .i64 n.rep, .slice ua n.mute.length uc, .bool n.on, .slice ka n.kids.length kc] 26)).heap.size = w5.heap.size + 1 := by simp
    have hb6 := ((Below.refl w5.heap.size w5).alloc (Nat.le_refl _) (.cells #[.string n.recv, .slice none 0 0, .slice ba n.bys.length bc, .int .i64 n.wait, .int .i64 n.every, .int .i64 n.rep, .slice ua n.mute.length uc, .bool n.on, .slice ka n.kids.length kc] 26)).alloc (by simp) (.cells #[.string ⟨#[111, 117, 116, 101, 114]⟩, .slice none 0 0, .slice none 0 0, .int .i64 0, .int .i64 1, .int .i64 1, .slice none 0 0, .bool false, .slice (some ⟨w5.heap.size, 0, none⟩) 1 1] 26)
    have hK6 := (Blk.new w5 26 #[.string n.recv, .slice none 0 0, .slice ba n.bys.length bc, .int .i64 n.wait, .int .i64 n.every, .int .i64 n.rep, .slice ua n.mute.length uc, .bool n.on, .slice ka n.kids.length kc]).alloc (.cells #[.string ⟨#[111, 117, 116, 101, 114]⟩, .slice none 0 0, .slice none 0 0, .int .i64 0, .int .i64 1, .int .i64 1, .slice none 0 0, .bool false, .slice (some ⟨w5.heap.size, 0, none⟩) 1 1] 26)
    have hO6 := Blk.new (w5.alloc (.cells #[.string n.recv, .slice none 0 0, .slice ba n.bys.length bc, .int .i64 n.wait, .int .i64 n.every, .int .i64 n.rep, .slice ua n.mute.length uc, .bool n.on, .slice ka n.kids.length kc] 26)) 26 #[.string ⟨#[111, 117, 116, 101, 114]⟩, .slice none 0 0, .slice none 0 0, .int .i64 0, .int .i64 1, .int .i64 1, .slice none 0 0, .bool false, .slice (some ⟨w5.heap.size, 0, none⟩) 1 1]
    rw [hz5] at hO6
    have hbw6 := bthen hbw5 hb6
    have hL6 := (HL4.out.call hb5).call hb6
    have hok6 : (outR qn w5.heap.size).ok _ := out_ok (HQN.out.call hbw6) (by rw [HTC.out]; exact hK6)
    have hco : (outR qn w5.heap.size).n.count ≤ 100000 := by
      show Rt.count (.mk _ _ _ _ _ _ _ _ [qn.n]) ≤ 100000
      simp only [Rt.count, countRs]
      rw [HNN.out, HCQ.out]; omega
    have hf2 := find_any (outR qn w5.heap.size) a1 c1 Lf _ hok6 hL6 hco
    rw [show tCells (outR qn w5.heap.size) = #[.string ⟨#[111, 117, 116, 101, 114]⟩, .slice none 0 0, .slice none 0 0, .int .i64 0, .int .i64 1, .int .i64 1, .slice none 0 0, .bool false, .slice (some ⟨w5.heap.size, 0, none⟩) 1 1] from rfl] at hf2
    obtain ⟨o0, o1, o2, o3, o4, o5, o6, o7, o8⟩ := hO6.cells9
    have HBW6 := Lib.hid hbw6
    have HB6 := Lib.hid hb6
    have HF2 := Lib.hid hf2
    clear hb6 hK6 hO6 hbw6 hL6 hok6 hco hf2 hz5 hB5 hbw5
    have hts := (htt.call HB6.out)
    obtain ⟨hrd, hrc⟩ := HDEP.out hfc
    have hpath : ∀ t ∈ ts, t.1.size ≤ 12 := fun t ht => by
      have := Rt.find_path Lf n.noMs 4 [] hrd _ (proj_mem hpt ht)
      simpa using this
    have hbare : ∀ t ∈ ts, t.2.n.kids = [] := fun t ht => Rt.find_bare Lf n.noMs [] _ (proj_mem hpt ht)
    have hwi := find_within hrc (n := n.noMs) (o := (outR qn w5.heap.size).n) (noMs_is n).2.1 (by show [qn.n] = [n.noMs]; rw [HNN.out])
    have hf3 := HF2.out.mono (fun e w8 (h : FindP _ _ _ e w8) => (show (e = .returned (.tuple #[.slice none 0 0, .int .i64 1]) ∧ Below _ _ w8) ∨ (∃ ua2 uc2 us, e = .returned (.tuple #[.slice ua2 ts.length uc2, .int .i64 0]) ∧ Longer us ts ∧ HasTgts w8 ua2 uc2 us ∧ Below _ _ w8) from by
      rcases h with ⟨_, h1, h2⟩ | ⟨_, ua2, uc2, us, h1, h2, h3, h4⟩
      · exact .inl ⟨h1, h2⟩
      · have hlo : Longer us ts := longer_of (by rw [h2, hwi, hpt])
        exact .inr ⟨ua2, uc2, us, by rw [← hlo.1]; exact h1, hlo, h3, h4⟩))
    have HTS := Lib.hid hts
    have HPATH := Lib.hid hpath
    have HBARE := Lib.hid hbare
    have HF3 := Lib.hid hf3
    clear hts hpath hbare hwi hf3 hrd hrc hfc hpt htt HF2 HDEP
    go_upto_region 7 with fail
    generalize (w5.alloc (.cells #[.string n.recv, .slice none 0 0, .slice ba n.bys.length bc, .int .i64 n.wait, .int .i64 n.every, .int .i64 n.rep, .slice ua n.mute.length uc, .bool n.on, .slice ka n.kids.length kc] 26)).alloc (.cells #[.string ⟨#[111, 117, 116, 101, 114]⟩, .slice none 0 0, .slice none 0 0, .int .i64 0, .int .i64 1, .int .i64 1, .slice none 0 0, .bool false, .slice (some ⟨w5.heap.size, 0, none⟩) 1 1] 26) = w6 at *
    go_upto_region 8 with (go_at_call 8; refine HF3.out.mono ?_; rintro e w8 (⟨rfl, hb8⟩ | ⟨ua2, uc2, us, rfl, hlo, hus, hb8⟩))
    · skip
      go_wp2_with (go_at_call 7; refine (alive_any _).mono ?_; rintro e w9 ⟨rfl, hb9⟩)
      go_ret
      exact ⟨rfl, bthen HBW6.out (bthen hb8 hb9)⟩
    · skip
      clear c0 c1' c2 c3 c4 c5 c6 c7 c8 o0 o1 o2 o3 o4 o5 o6 o7 o8
      go_upto_region 12 with (go_at_call 7; refine (alive_any _).mono ?_; rintro e w9 ⟨rfl, hb9⟩)
      have hts9 := (HTS.out.call hb8).call hb9
      have hus9 := hus.call hb9
      have hbw9 := bthen HBW6.out (bthen hb8 hb9)
      have HBW9 := Lib.hid hbw9
      have HLO := Lib.hid hlo
      clear hb8 hb9 hus hlo hbw9 HTS HBW6 HB6
      generalize w9 = wa at *
      by_cases hz : ts.length = 0
      · rw [hz]
        go_wp2_with fail
        refine wp_loop_rounds 1 ?_
        rw [rounds_succ]
        go_wp2_with fail
        go_ret
        exact ⟨rfl, HBW9.out⟩
      have hul := HLO.out.1
      obtain ⟨ht1, ht2, ht3, ht4⟩ := hts9
      obtain ⟨hu1, hu2, hu3, hu4⟩ := hus9
      obtain ⟨tb, tof, rfl, _, htc⟩ : ∃ b off, ta = some ⟨b, off, none⟩ ∧ b < wa.heap.size ∧ ∀ i (h : i < ts.length), TgtLies wa b (off + i * 10) ts[i] := by
        rcases ht4 with h | h
        · exact absurd (by rw [h]; rfl) hz
        · exact h
      obtain ⟨ub, uof, rfl, _, huc⟩ : ∃ b off, ua2 = some ⟨b, off, none⟩ ∧ b < wa.heap.size ∧ ∀ i (h : i < us.length), TgtLies wa b (off + i * 10) us[i] := by
        rcases hu4 with h | h
        · exact absurd (by rw [← hul, h]; rfl) hz
        · exact h
      have HT := Lib.hid htc
      have HU := Lib.hid huc
      have HT3 := Lib.hid ht3
      have HU3 := Lib.hid hu3
      have HUL := Lib.hid hul
      unfold maxLen at ht2 hu2
      have hu1' : ts.length ≤ uc2 := by omega
      clear htc huc ht3 hu3 ht4 hu4 hul hz hu1
      go_wp2_with fail
      go_loopg [59, 10] ts.length (fun gg iv _ wr => ∃ k : Nat, k + gg = ts.length ∧ iv = .int .i64 (k : Int) ∧ Below wa.heap.size wa wr)
      case atStart => exact ⟨0, by omega, rfl, Below.refl _ _⟩
      case round =>
        obtain ⟨k, hkg, rfl, hbr⟩ := hrel
        cases gk with
        | zero =>
          obtain rfl : k = ts.length := by omega
          have HBR := Lib.hid hbr
          clear hbr
          go_wp2_with fail
          go_ret
          exact ⟨rfl, bthen HBW9.out HBR.out⟩
        | succ gg =>
          have hkl : k < ts.length := by omega
          have hku : k < us.length := by have := HUL.out; omega
          obtain ⟨hx1, hx2⟩ := HLO.out.2 k hku hkl
          have hs12 := HPATH.out _ (List.getElem_mem hkl)
          have hbk := HBARE.out _ (List.getElem_mem hkl)
          have hto := (HT3.out _ (List.getElem_mem hkl)).own
          have huo := (HU3.out _ (List.getElem_mem hku)).own
          have htl := HT.out k hkl
          have hul := HU.out k hku
          generalize ts[k] = t at *
          generalize us[k] = u at *
          obtain ⟨up, uq⟩ := u
          obtain ⟨tp, tq⟩ := t
          simp only at hx1 hx2 hs12 hbk hto huo
          subst hx1
          have hlk := fun W (hW : Below wa.heap.size wa W) => rLikeFlat_any uq tq hx2 (by rw [hx2]; exact hbk) W (huo.call hW) (hto.call hW)
          have hrw := fun x => bthen hbr (later_below wr x)
          have t0 := fun x => cellL (hrw x) htl.1
          obtain ⟨tl0, tl1, tl2, tl3, tl4, tl5, tl6, tl7, tl8⟩ := htl.2
          have t1 := fun x => cellL (hrw x) tl0
          have t2 := fun x => cellL (hrw x) tl1
          have t3 := fun x => cellL (hrw x) tl2
          have t4 := fun x => cellL (hrw x) tl3
          have t5 := fun x => cellL (hrw x) tl4
          have t6 := fun x => cellL (hrw x) tl5
          have t7 := fun x => cellL (hrw x) tl6
          have t8 := fun x => cellL (hrw x) tl7
          have t9 := fun x => cellL (hrw x) tl8
          have u0 := fun x => cellL (hrw x) hul.1
          obtain ⟨ul0, ul1, ul2, ul3, ul4, ul5, ul6, ul7, ul8⟩ := hul.2
          have u1 := fun x => cellL (hrw x) ul0
          have u2 := fun x => cellL (hrw x) ul1
          have u3 := fun x => cellL (hrw x) ul2
          have u4 := fun x => cellL (hrw x) ul3
          have u5 := fun x => cellL (hrw x) ul4
          have u6 := fun x => cellL (hrw x) ul5
          have u7 := fun x => cellL (hrw x) ul6
          have u8 := fun x => cellL (hrw x) ul7
          have u9 := fun x => cellL (hrw x) ul8
          have hp1 : ¬ 9223372036854775807 < 2 + tp.size := by omega
          have HLK := Lib.hid hlk
          have HBR := Lib.hid hbr
          clear hlk hbr hto huo htl hul hx2 hbk hs12 hrw tl0 tl1 tl2 tl3 tl4 tl5 tl6 tl7 tl8 ul0 ul1 ul2 ul3 ul4 ul5 ul6 ul7 ul8
          simp only [tCells] at HLK
          go_upto_region 15 with fail
          refine wp_region_later (by kernel_rfl) (by kernel_rfl) ?_
          repeat (go_big_quiet_step ((go_at_call 9; exact calls_later (HLK.out _ (bthen HBR.out (later_below _ _))))))
          refine wpQuiet_nil ?_
          rintro _ ⟨x, rfl⟩
          have hb2 := bthen HBR.out (later_below wr x)
          generalize later wr x = wn at *
          go_wp2_with fail
          go_roundg gg
          case measure => omega
          case rel => exact ⟨k + 1, by omega, by go_num, hb2⟩
end Go.Proofs.YtdlhmjdjoadioacDoor
