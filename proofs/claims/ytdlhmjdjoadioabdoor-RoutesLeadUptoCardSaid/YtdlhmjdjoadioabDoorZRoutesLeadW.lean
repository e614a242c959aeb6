/- RoutesLead: for every route and all labels: they lead to one route at least, no path twice; each is one whose matchers hold, unless it is the first; without On they lead to just one: the law's walk. -/
import Derived.Test.YtdlhmjdjoadioabDoorRteS
import Derived.Test.YtdlhmjdjoadioabDoorMg1
import Derived.Test.YtdlhmjdjoadioabDoorMg2
import Derived.Test.YtdlhmjdjoadioabDoorRteR
namespace Go.Proofs.YtdlhmjdjoadioabDoor
open Go.RowKit

theorem Blk.cells10 {w : World} {g : Nat} {t : TypeId} {x0 x1 x2 x3 x4 x5 x6 x7 x8 x9 : Value} (h : Blk w g t #[x0, x1, x2, x3, x4, x5, x6, x7, x8, x9]) :
    w.cell? ⟨g, 0, none⟩ = some x0 ∧ w.cell? ⟨g, 1, none⟩ = some x1 ∧ w.cell? ⟨g, 2, none⟩ = some x2 ∧ w.cell? ⟨g, 3, none⟩ = some x3 ∧ w.cell? ⟨g, 4, none⟩ = some x4 ∧ w.cell? ⟨g, 5, none⟩ = some x5 ∧ w.cell? ⟨g, 6, none⟩ = some x6 ∧ w.cell? ⟨g, 7, none⟩ = some x7 ∧ w.cell? ⟨g, 8, none⟩ = some x8 ∧ w.cell? ⟨g, 9, none⟩ = some x9 :=
  ⟨h.cell 0, h.cell 1, h.cell 2, h.cell 3, h.cell 4, h.cell 5, h.cell 6, h.cell 7, h.cell 8, h.cell 9⟩
theorem proj_mem {ts : List TgtAt} {F : List Tgt} (h : proj ts = F) {t : TgtAt} (ht : t ∈ ts) : (t.1.data.toList, t.2.n) ∈ F := by
  rw [← h]
  exact List.mem_map.2 ⟨t, ht, rfl⟩
def offR (c : Nat) : Nat := if c = 1 then 0 else 9
theorem run_from1 (w : World) (g n q : Nat) (hr : 1 ≤ n) :
    (Instr.slice 24 (.slice (some ⟨g, 0, none⟩) n q) (some (.int .i64 1)) none none).run Tryd.prog w = .ok (.slice (some ⟨g, offR q, none⟩) (n - 1) (q - 1)) w := by
  have he : Tryd.prog.elem 24 = 26 := by kernel_rfl
  have ht : Tryd.prog.underlying 24 = some (.slice (Tryd.prog.elem 24)) := by rw [he]; exact Tryd.underlying24
  rw [run_slice_l (P := Tryd.prog) w 24 (some ⟨g, 0, none⟩) n q ht .i64 1 (by omega) (by omega)]
  have hs : (sizeOf (Tryd.prog.elem 24)).run Tryd.prog w = .ok 9 w := by rw [he]; exact Tryd.sizeOf26 w
  rw [hs]
  simp only [Result.andThen, sliced, offR]
  by_cases h : q = 1
  · subst h; simp
  · rw [if_neg h]
    simp [h, Addr.add]
theorem memK_not {ts : List TgtAt} (h : (ts.map fun t => t.1).Nodup) (k : Nat) (hk : k < ts.length) : memK ((ts.take k).map fun t => t.1) ts[k].1 = false := by
  cases hm : memK ((ts.take k).map fun t => t.1) ts[k].1 with
  | false => rfl
  | true =>
    unfold memK at hm
    obtain ⟨x, hx, e⟩ := List.any_eq_true.1 hm
    obtain ⟨t, ht, rfl⟩ := List.mem_map.1 hx
    obtain ⟨j, hj, rfl⟩ := List.getElem_of_mem ht
    have hj2 : j < k := by rw [List.length_take] at hj; omega
    have h2 := List.pairwise_iff_getElem.1 h j k (by rw [List.length_map]; omega) (by rw [List.length_map]; exact hk) hj2
    simp only [List.getElem_map] at h2
    simp only [List.getElem_take, decide_eq_true_eq] at e
    exact absurd e h2

set_option maxHeartbeats 12800000 in
set_option maxRecDepth 100000 in
theorem routesLead_walk {w : World} (q : RtAt) (hq : q.ok w) (a : Option Addr) (len c : Nat) (ls : List Lab) (hL0 : ls.length = len ∧ HasLabs w a c ls) :
    Calls Tryd.prog 5 #[.agg (tCells q), .slice a len c] w (BoolB true w) := by
  obtain ⟨rfl, hL⟩ := hL0
  have hb0 := (Below.refl w.heap.size w).alloc (Nat.le_refl _) (.cells (tCells q) 26)
  have hB0 := Blk.new w 26 (tCells q)
  have hfew := few_any a c ls _ (hL.call hb0)
  have hmany := fun W (hW : Below w.heap.size w W) => many_any hq W 60 hW (by omega)
  rw [show ((60 : Nat) : Int) = 60 from rfl] at hmany
  obtain ⟨Lf, hLf⟩ : ∃ Lf, fewL ls = Lf := ⟨_, rfl⟩
  rw [hLf] at hfew
  have HQ := Lib.hid hq
  have HFEW := Lib.hid hfew
  have HMANY := Lib.hid hmany
  have HB0 := Lib.hid hb0
  clear hfew hmany hq hL hLf hb0
  obtain ⟨n, ma, mc, ba, bc, ua, uc, ka, kc⟩ := q
  have HFIND := Lib.hid (fun W (hW : Below w.heap.size w W) (hc : n.count ≤ 60) a1 c1 (hl : HasLabs W a1 c1 Lf) => find_any ⟨n, ma, mc, ba, bc, ua, uc, ka, kc⟩ a1 c1 Lf W (HQ.out.call hW) hl (by show n.count ≤ 100000; omega))
  simp only [tCells] at hB0 HFEW HMANY HB0 HFIND ⊢
  go_enter Tryd.func5, Tryd.ntmps5
  go_upto_region 1 with fail
  generalize w.alloc (.cells #[.string n.recv, .slice ma n.ms.length mc, .slice ba n.bys.length bc, .int .i64 n.wait, .int .i64 n.every, .int .i64 n.rep, .slice ua n.mute.length uc, .bool n.on, .slice ka n.kids.length kc] 26) = w1 at *
  go_upto_region 2 with (go_at_call 7; refine HFEW.out.mono ?_; rintro e w2 ⟨a1, c1, rfl, hL2, hfr2, hb2⟩)
  have hB2 := hB0.call hb2
  have hbw2 := bthen HB0.out hb2
  obtain ⟨c0, c1', c2, c3, c4, c5, c6, c7, c8⟩ := hB2.cells9
  go_cut [19] (fun v wy => ∃ z : Nat, v = .bool (decide (60 < (z : Int))) ∧ (z ≤ 60 → z = n.count) ∧ Below w2.heap.size w2 wy)
  case first =>
    go_wp2_with (go_at_call 8; refine (HMANY.out _ hbw2).mono ?_; rintro e w3 ⟨z, rfl, hz1, hz2, hz3, hb3⟩)
    go_meet
    exact ⟨z, rfl, hz3, hb3⟩
  case rest =>
  obtain ⟨z, rfl, hz3, hb3⟩ := hcut
  obtain ⟨w3, hw3⟩ : ∃ W, W = wc := ⟨_, rfl⟩
  subst hw3
  clear c0 c1' c2 c3 c4 c5 c6 c7 c8
  have hbw3 := bthen hbw2 hb3
  by_cases hz60 : z ≤ 60
  case neg =>
    have hd : decide (60 < (z : Int)) = true := decide_eq_true (by omega)
    rw [hd]
    have HBW := Lib.hid hbw3
    clear hd hz60 hz3
    go_wp2_with (go_at_call 9; refine (alive_any _).mono ?_; rintro e w4 ⟨rfl, hb4⟩)
    go_ret
    exact ⟨rfl, bthen HBW.out hb4⟩
  case pos =>
  have hd : decide (60 < (z : Int)) = false := decide_eq_false (by omega)
  rw [hd]
  have hcnt : n.count ≤ 60 := by have := hz3 hz60; omega
  have hB3 := hB2.call hb3
  have hL3 := hL2.call hb3
  obtain ⟨c0, c1', c2, c3, c4, c5, c6, c7, c8⟩ := hB3.cells9
  have hf1 := HFIND.out w3 hbw3 hcnt a1 c1 hL3
  have HF1 := Lib.hid hf1
  have HBW3 := Lib.hid hbw3
  have HL3 := Lib.hid hL3
  have HCNT := Lib.hid hcnt
  clear hd hz60 hz3 hbw2 hbw3 hb2 hb3 hL2 hL3 hfr2 hB2 hB0 hf1 hcnt HFIND HFEW HMANY
  go_upto_region 5 with (go_at_call 10; refine HF1.out.mono ?_; rintro e w4 (⟨hfc, rfl, hb4⟩ | ⟨hfc, ta, tc, ts, rfl, hpt, htt, hb4⟩))
  · skip
    go_wp2_with (go_at_call 9; refine (alive_any _).mono ?_; rintro e w9 ⟨rfl, hb9⟩)
    go_ret
    exact ⟨rfl, bthen HBW3.out (bthen hb4 hb9)⟩
  · skip
    have hfc' : rteC n = true ∧ rightC Lf = true := by
      unfold findC at hfc
      rw [Bool.and_eq_true] at hfc
      exact hfc
    have hne : ts ≠ [] := fun e => by
      rw [e] at hpt
      exact Rt.find_some Lf [] n hpt.symm
    have hB4 := hB3.call hb4
    have hbw4 := bthen HBW3.out hb4
    have hL4 := HL3.out.call hb4
    have hpr : ∀ t ∈ ts, (t.1.data.toList, t.2.n) ∈ n.find Lf [] := fun t ht => proj_mem hpt ht
    have hlen : ts.length = (n.find Lf []).length := by rw [← proj_len ts, hpt]
    have hnd : (ts.map fun t => t.1).Nodup := by
      have h := find_nodup (L := Lf) hfc'.1
      rw [← hpt] at h
      simp only [proj, List.map_map] at h
      rw [List.Nodup, List.pairwise_map] at h ⊢
      exact h.imp (fun {a b} hab e => hab (by show a.1.data.toList = b.1.data.toList; rw [e]))
    have HND := Lib.hid (fun k hk => memK_not hnd k hk)
    have HRT := Lib.hid (fun t (ht : t ∈ ts) => (show rteC t.2.n = true ∧ t.2.n.kids = [] from ⟨Rt.find_right Lf n 4 [] hfc'.1 _ (hpr t ht), Rt.find_bare Lf n [] _ (hpr t ht)⟩))
    have HRP := Lib.hid (fun t (ht : t ∈ ts) => root_path (L := Lf) (hpr t ht))
    have HON := Lib.hid (fun (h : onAny n.kids = false) => (show ts.length = 1 by rw [hlen]; exact Rt.find_one Lf [] n h))
    have HPATH := Lib.hid (fun t (ht : t ∈ ts) => (show t.1.size ≤ 12 by
      have := Rt.find_path Lf n 4 [] hfc'.1 _ (hpr t ht)
      simpa using this))
    have HLEN := Lib.hid hlen
    obtain ⟨ht1, ht2, ht3, ht4⟩ := htt
    obtain ⟨tb, tof, rfl, _, htc⟩ : ∃ b off, ta = some ⟨b, off, none⟩ ∧ b < w4.heap.size ∧ ∀ i (h : i < ts.length), TgtLies w4 b (off + i * 10) ts[i] := ht4.resolve_left hne
    have HT := Lib.hid htc
    have HT3 := Lib.hid ht3
    have HBW4 := Lib.hid hbw4
    have HL4 := Lib.hid hL4
    have HRC := Lib.hid hfc'.2
    have hpos : 1 ≤ ts.length := by
      rcases Nat.eq_zero_or_pos ts.length with h | h
      · exact absurd (List.eq_nil_of_length_eq_zero h) hne
      · exact h
    obtain ⟨c0, c1', c2, c3, c4, c5, c6, c7, c8⟩ := hB4.cells9
    have hcn := HCNT.out
    have hall := all_any HQ.out w4 hbw4 (by show n.count ≤ 100000; omega)
    simp only [tCells] at hall
    have HALL := Lib.hid hall
    unfold maxLen at ht2
    clear hlen hpr hnd htc ht3 ht4 hne hpt hfc hfc' hB3 hbw4 hL4 hb4 HF1 HL3 HBW3 hall hcn
    go_upto_region 8 with fail
    go_cut [41, 42, 43] (fun v nv iv wy => ∃ (ga ca : Nat) (rs : List RtAt), v = .slice (some ⟨ga, offR ca, none⟩) (rs.length - 1) (ca - 1) ∧ nv = .int .i64 ((rs.length - 1 : Nat) : Int) ∧ iv = .int .i64 0 ∧ 1 ≤ rs.length ∧ rs.map (fun r : RtAt => r.n) = n.all ∧ RowR wy ga rs ∧ rs.length ≤ ca ∧ ca ≤ maxLen ∧ Below w4.heap.size w4 wy)
    case first =>
      go_wp2_with (go_at_call 16; refine HALL.out.mono ?_; rintro e w5 ⟨ga, ca, rs, rfl, hga, hm, hok, hrow, hc1, hc2, hb5⟩; have hr1 : 1 ≤ rs.length := (by have h := congrArg List.length hm; rw [List.length_map, Rt.all_eq, List.length_cons] at h; omega); have hsl := fun W => run_from1 W ga rs.length ca hr1)
      go_meet
      exact ⟨ga, ca, rs, rfl, rfl, rfl, hr1, hm, hrow, hc1, hc2, hb5⟩
    case rest =>
    obtain ⟨ga, ca, rs, rfl, rfl, rfl, hr1, hm, hrow, hc1, hc2, hb5⟩ := hcut
    obtain ⟨w5, hw5⟩ : ∃ W, W = wc := ⟨_, rfl⟩
    subst hw5
    clear c0 c1' c2 c3 c4 c5 c6 c7 c8
    have hml : rs.length - 1 = (allRs n.kids).length := by
      have h := congrArg List.length hm
      rw [List.length_map, Rt.all_eq, List.length_cons] at h
      omega
    have hrn : ∀ k (h : k < (allRs n.kids).length) (h' : k + 1 < rs.length), rs[k + 1].n = (allRs n.kids)[k] := fun k h h' => by
      have e := congrArg (·[k + 1]?) hm
      rw [Rt.all_eq] at e
      simp only [List.getElem?_map, List.getElem?_eq_getElem h', List.getElem?_cons_succ, List.getElem?_eq_getElem h, Option.map_some, Option.some.injEq] at e
      exact e
    have HRN := Lib.hid hrn
    have HML := Lib.hid hml
    obtain ⟨Y, hY⟩ : ∃ Y, offR ca = Y := ⟨_, rfl⟩
    have hlies : ∀ k (h : k + 1 < rs.length), rs[k + 1].lies w5 ga (Y + k * 9) := fun k h => by
      have e : Y = 9 := by rw [← hY]; unfold offR; rw [if_neg (by omega)]
      have h1 := hrow.lies (k + 1) h
      rw [show (k + 1) * 9 = Y + k * 9 by omega] at h1
      exact h1
    rw [hY]
    have HROW := Lib.hid hlies
    have HBW5 := Lib.hid (bthen HBW4.out hb5)
    have HB5 := Lib.hid hb5
    obtain ⟨N, hN⟩ : ∃ N, rs.length - 1 = N := ⟨_, rfl⟩
    have hNc : N ≤ ca - 1 := by omega
    have hN1 : rs.length = N + 1 := by omega
    rw [hN] at HML ⊢
    unfold maxLen at hc2
    have hc2' : ca - 1 ≤ 9223372036854775807 := by omega
    have HN1 := Lib.hid hN1
    generalize ca - 1 = cb at *
    clear hm hrn hml hrow hlies hY hb5 hr1 hc1 hc2 hN hN1
    go_wp2_with fail
    go_loopg [43, 7, 9] N (fun gg iv ov _ wr => ∃ k : Nat, k + gg = N ∧ iv = .int .i64 (k : Int) ∧ ov = .bool (((allRs n.kids).take k).any Rt.on) ∧ Below w5.heap.size w5 wr)
    case atStart => exact ⟨0, by omega, rfl, rfl, Below.refl _ _⟩
    case round =>
      obtain ⟨k, hkg, rfl, rfl, hbr⟩ := hrel
      cases gk with
      | succ gg =>
        have hkN : k < N := by omega
        have hkr : k + 1 < rs.length := by have := HN1.out; omega
        have hka : k < (allRs n.kids).length := by have := HML.out; omega
        have hl := HROW.out k hkr
        have hrr := HRN.out k hka hkr
        have hta : ((allRs n.kids).take (k + 1)).any Rt.on = (((allRs n.kids).take k).any Rt.on || (allRs n.kids)[k].on) := by
          rw [List.take_succ_eq_append_getElem hka, List.any_append]; simp
        rw [← hrr] at hta
        obtain ⟨e0, e1, e2, e3, e4, e5, e6, e7, e8⟩ := hl
        have d0 := cellL hbr e0
        have d1 := cellL hbr e1
        have d2 := cellL hbr e2
        have d3 := cellL hbr e3
        have d4 := cellL hbr e4
        have d5 := cellL hbr e5
        have d6 := cellL hbr e6
        have d7 := cellL hbr e7
        have d8 := cellL hbr e8
        have hbn := (Below.refl wr.heap.size wr).alloc (Nat.le_refl _) (.cells (tCells rs[k + 1]) 26)
        obtain ⟨f0, f1, f2, f3, f4, f5, f6, f7, f8⟩ := (Blk.new wr 26 (tCells rs[k + 1])).cells9
        have HBN := Lib.hid (bthen hbr hbn)
        have HTA := Lib.hid hta
        clear e0 e1 e2 e3 e4 e5 e6 e7 e8 hrr hta hbr hbn HROW HRN HML
        generalize rs[k + 1] = r at *
        clear hkr hka
        obtain ⟨r, ma', mc', ba', bc', ua', uc', ka', kc'⟩ := r
        simp only [tCells] at *
        generalize r.on = O at *
        generalize ((allRs n.kids).take k).any Rt.on = P at *
        cases P with
        | true =>
          go_wp2_with fail
          go_roundg gg
          case measure => omega
          case rel => exact ⟨k + 1, by omega, by go_num, by rw [HTA.out]; rfl, HBN.out⟩
        | false =>
          go_wp2_with fail
          go_roundg gg
          case measure => omega
          case rel => exact ⟨k + 1, by omega, by go_num, by rw [HTA.out]; rfl, HBN.out⟩
      | zero =>
        obtain rfl : k = N := by omega
        have hon : ((allRs n.kids).take k).any Rt.on = onAny n.kids := by
          rw [HML.out, List.take_length]; rfl
        rw [hon]
        have hmm := @run_makeMap Tryd.prog
        obtain ⟨w6, hw6⟩ : ∃ W, W = wr := ⟨_, rfl⟩
        subst hw6
        have hs0 := SetIs.made w6
        have hb7 := (Below.refl w6.heap.size w6).alloc (Nat.le_refl _) (.map #[] 0)
        have HW6 := Lib.hid (bthen HBW5.out hbr)
        have HB6 := Lib.hid (bthen HB5.out hbr)
        obtain ⟨ON, hON⟩ : ∃ O, onAny n.kids = O := ⟨_, rfl⟩
        rw [hON] at HON ⊢
        clear hon hbr HROW HRN HML HN1 hON hkg hNc hc2'
        go_upto_region 14 with fail
        generalize w6.alloc (.map #[] 0) = w7 at *
        have hz7 := hs0.lt
        have hmb4 : w4.heap.size ≤ w6.heap.size := HB6.out.size
        have HW7 := Lib.hid (bthen HW6.out hb7)
        have HB7 := Lib.hid (bthen HB6.out hb7)
        have hmw : w.heap.size ≤ w6.heap.size := HW6.out.size
        clear hb7
        generalize w6.heap.size = mb at *
        go_wp2_with fail
        go_loopg [56, 12, 13, 14] ts.length (fun gg iv _ _ _ wr => ∃ k : Nat, k + gg = ts.length ∧ iv = .int .i64 (k : Int) ∧ SetIs wr mb ((ts.take k).map fun t => t.1) ∧ Below mb w7 wr ∧ mb ≤ wr.heap.size)
        case atStart => exact ⟨0, by omega, rfl, hs0, Below.refl _ _, by omega⟩
        case round =>
          obtain ⟨k, hkg, rfl, hsk, hbr, hzr⟩ := hrel
          have HWR := Lib.hid (HW7.out.trans (hbr.mono hmw))
          have HBR := Lib.hid (HB7.out.trans (hbr.mono hmb4))
          cases gk with
          | zero =>
            obtain rfl : k = ts.length := by omega
            rw [List.take_length] at hsk
            obtain ⟨MB, hMB⟩ : ∃ B, memK (ts.map fun t => t.1) ⟨#[]⟩ = B := ⟨_, rfl⟩
            have hfin : ts.length = 1 ∨ (ON = true ∧ MB = false) := by
              by_cases h1 : ts.length = 1
              · exact .inl h1
              · refine .inr ⟨?_, ?_⟩
                · cases hO : ON with
                  | true => rfl
                  | false => exact absurd (HON.out hO) h1
                · cases hm : MB with
                  | false => rfl
                  | true =>
                    rw [← hMB] at hm
                    unfold memK at hm
                    obtain ⟨x, hx, e⟩ := List.any_eq_true.1 hm
                    obtain ⟨t, ht, rfl⟩ := List.mem_map.1 hx
                    have e2 : t.1 = ⟨#[]⟩ := of_decide_eq_true e
                    have := (HRP.out t ht).1 (by rw [e2])
                    exact absurd (HLEN.out.trans this) h1
            have hlk := fun W (hW : Below wr.heap.size wr W) => (hsk.call hW).look ⟨#[]⟩ (by unfold maxLen; decide)
            rw [hMB] at hlk
            have HLK := Lib.hid hlk
            have hp1 : decide ((1 : Int) ≤ (ts.length : Int)) = true := decide_eq_true (by omega)
            clear hMB hsk hbr hlk HRP HON HLEN HND HRT HPATH HT HT3 HL4 HRC hs0
            rcases hfin with h1 | ⟨rfl, rfl⟩
            · have h1' : (((ts.length : Nat) : Int) == 1) = true := by rw [h1]; rfl
              clear h1
              cases ON
              all_goals
                cases MB
              all_goals
                go_wp2_with (go_at_call 9; refine (alive_any _).mono ?_; rintro e w9 ⟨rfl, hb9⟩; have hl9 := HLK.out w9 hb9)
                go_ret
                exact ⟨rfl, bthen HWR.out hb9⟩
            · go_wp2_with (go_at_call 9; refine (alive_any _).mono ?_; rintro e w9 ⟨rfl, hb9⟩; have hl9 := HLK.out w9 hb9)
              go_ret
              exact ⟨rfl, bthen HWR.out hb9⟩
          | succ gg =>
            have hkl : k < ts.length := by omega
            have htl := HT.out k hkl
            have hp12 := HPATH.out _ (List.getElem_mem hkl)
            have hto := HT3.out _ (List.getElem_mem hkl)
            have hrt := HRT.out _ (List.getElem_mem hkl)
            have hrp := (HRP.out _ (List.getElem_mem hkl)).2
            have hnd := HND.out k hkl
            have hKs : (ts.take (k + 1)).map (fun t => t.1) = (ts.take k).map (fun t => t.1) ++ [ts[k].1] := by
              rw [List.take_succ_eq_append_getElem hkl, List.map_append]; rfl
            have hKl : ((ts.take k).map fun t => t.1).length ≤ 1000000 := by
              have h1 := Rt.find_len Lf [] n
              have := HLEN.out; have := HCNT.out
              rw [List.length_map, List.length_take]
              omega
            generalize (ts.take k).map (fun t => t.1) = K at *
            generalize ts[k] = t at *
            obtain ⟨tp, tq⟩ := t
            simp only at htl hp12 hto hrt hrp hnd hKs
            obtain ⟨hrt1, hrt2⟩ := hrt
            have hk0 : tq.n.kids.length = 0 := by rw [hrt2]; rfl
            have hm8 : tq.n.ms.length ≤ 8 := (alone_kids (by unfold rteC at hrt1; rw [rightRt_succ, Bool.and_eq_true] at hrt1; exact hrt1.1)).2
            have hmr := alone_ms (n := tq.n) (by unfold rteC at hrt1; rw [rightRt_succ, Bool.and_eq_true] at hrt1; exact hrt1.1)
            have t0 := cellL HBR.out htl.1
            obtain ⟨tl0, tl1, tl2, tl3, tl4, tl5, tl6, tl7, tl8⟩ := htl.2
            rw [hk0] at tl8
            have t1 := cellL HBR.out tl0
            have t2 := cellL HBR.out tl1
            have t3 := cellL HBR.out tl2
            have t4 := cellL HBR.out tl3
            have t5 := cellL HBR.out tl4
            have t6 := cellL HBR.out tl5
            have t7 := cellL HBR.out tl6
            have t8 := cellL HBR.out tl7
            have t9 := cellL HBR.out tl8
            have hbn := (Below.refl wr.heap.size wr).alloc (Nat.le_refl _) (.cells #[.string tp, .string tq.n.recv, .slice tq.ma tq.n.ms.length tq.mc, .slice tq.ba tq.n.bys.length tq.bc, .int .i64 tq.n.wait, .int .i64 tq.n.every, .int .i64 tq.n.rep, .slice tq.ua tq.n.mute.length tq.uc, .bool tq.n.on, .slice tq.ka 0 tq.kc] 42)
            have hBt := Blk.new wr 42 #[.string tp, .string tq.n.recv, .slice tq.ma tq.n.ms.length tq.mc, .slice tq.ba tq.n.bys.length tq.bc, .int .i64 tq.n.wait, .int .i64 tq.n.every, .int .i64 tq.n.rep, .slice tq.ua tq.n.mute.length tq.uc, .bool tq.n.on, .slice tq.ka 0 tq.kc]
            have hsn := hsk.call hbn
            have hmbk := hsk.lt
            have hlk := hsn.look tp (by unfold maxLen; omega)
            rw [hnd] at hlk
            have hok := (hto.call HBR.out).call hbn
            have hrr := rteRight_any tq _ hok
            rw [hrt1] at hrr
            simp only [tCells, hk0] at hrr
            have hld := hrp
            have HRR := Lib.hid hrr
            have HHD := Lib.hid (fun W (hW : Below w4.heap.size w4 W) => holds_any a1 tq.ma c1 tq.mc Lf tq.n.ms W (HL4.out.call hW) (hto.own.call hW).1 (by omega))
            have hl0 : (holdsL Lf tq.n.ms).2 = 0 := holdsL_right HRC.out hmr
            unfold HoldsPost at HHD
            rw [hl0] at HHD
            have HBN := Lib.hid hbn
            have HKS := Lib.hid hKs
            have HND2 := Lib.hid hnd
            have hsz12 : tp.size ≤ maxLen := by unfold maxLen; omega
            have HSZ := Lib.hid hsz12
            have HKL := Lib.hid hKl
            have HRP2 := Lib.hid hld
            clear htl hto hrt1 hrt2 hrp hld hnd hKs hKl tl0 tl1 tl2 tl3 tl4 tl5 tl6 tl7 tl8 hok hrr hm8 hmr hl0 hsk hsz12 hp12 HT HT3 HRP HRT HND HPATH hs0 HON
            go_upto_region 17 with fail
            clear t0 t1 t2 t3 t4 t5 t6 t7 t8 t9
            generalize wr.alloc (.cells #[.string tp, .string tq.n.recv, .slice tq.ma tq.n.ms.length tq.mc, .slice tq.ba tq.n.bys.length tq.bc, .int .i64 tq.n.wait, .int .i64 tq.n.every, .int .i64 tq.n.rep, .slice tq.ua tq.n.mute.length tq.uc, .bool tq.n.on, .slice tq.ka 0 tq.kc] 42) = wn at *
            obtain ⟨x0, x1, x2, x3, x4, x5, x6, x7, x8, x9⟩ := hBt.cells10
            go_upto_region 19 with (go_at_call 11; refine HRR.out.mono ?_; rintro e w8 ⟨rfl, hb8⟩)
            have hs8 := hsn.call hb8
            have hB8 := hBt.call hb8
            clear x0 x1 x2 x3 x4 x5 x6 x7 x8 x9 hlk
            obtain ⟨x0, x1, x2, x3, x4, x5, x6, x7, x8, x9⟩ := hB8.cells10
            go_upto_region 20 with (refine wpList_putK _ rfl _ _ _ rfl mb K tp rfl hs8 HKL.out rfl rfl HND2.out HSZ.out ?_; intro w9 hs9 hg9)
            have hne : some wr.heap.size ≠ some mb := by
              intro e
              have e1 : wr.heap.size = mb := Option.some.inj e
              have h7 := hmbk
              omega
            have hB9 := hB8.grown hg9 hne
            have hz8 : mb ≤ w8.heap.size := Nat.le_trans hzr (Nat.le_trans HBN.out.size hb8.size)
            have hb9 : Below mb w7 w9 := ((hbr.trans (HBN.out.mono hzr)).trans (hb8.mono (Nat.le_trans hzr HBN.out.size))).grown hg9 hz8 (fun k hk => by rw [Option.some.inj hk]; exact Nat.le_refl _)
            have hz9 : mb ≤ w9.heap.size := Nat.le_trans hz8 hg9.size
            have HB49 := Lib.hid (HB7.out.trans (hb9.mono hmb4))
            rw [← HKS.out] at hs9
            clear x0 x1 x2 x3 x4 x5 x6 x7 x8 x9 hs8 hB8 hsn hBt hb8 hg9 hne
            obtain ⟨x0, x1, x2, x3, x4, x5, x6, x7, x8, x9⟩ := hB9.cells10
            by_cases hp : tp = ⟨#[]⟩
            · subst hp
              clear HRP2
              go_wp2_with fail
              go_roundg gg
              case measure => omega
              case rel => exact ⟨k + 1, by omega, by go_num, hs9, hb9, hz9⟩
            · have hp0 : tp.data.toList ≠ [] := fun e => hp (bytes_ext e)
              have hld := HRP2.out hp0
              unfold leadsTo at hld
              rw [hld] at HHD
              have q0 : (tp.toList == (⟨#[]⟩ : ByteArray).toList) = false := by
                rw [toList_eq_iff]
                exact decide_eq_false hp
              have q1 : (tp.toList == []) = false := by
                rw [ByteArray.toList_eq]
                cases h : tp.data.toList with
                | nil => exact absurd h hp0
                | cons x y => rfl
              have q2 : tp.toList.isEmpty = false := by
                rw [ByteArray.toList_eq]
                cases h : tp.data.toList with
                | nil => exact absurd h hp0
                | cons x y => rfl
              clear hp hp0 hld HRP2
              go_wp2_with (go_at_call 22; refine (HHD.out _ HB49.out).mono ?_; rintro e wa ⟨rfl, hba⟩)
              go_roundg gg
              case measure => omega
              case rel => exact ⟨k + 1, by omega, by go_num, hs9.call hba, hb9.trans (hba.mono hz9), Nat.le_trans hz9 hba.size⟩
end Go.Proofs.YtdlhmjdjoadioabDoor
