/- RoutesMore: for every route and all labels: a route that holds of nothing, put in behind the others, changes nothing; one that holds of all, and is not On, put in ahead of all, is the one that all lead to: the law's walk. -/
import Derived.Test.YtpcenhaieicejabDoorRteMo
import Derived.Test.YtpcenhaieicejabDoorRteT
import Derived.Test.YtpcenhaieicejabDoorMg1
import Derived.Test.YtpcenhaieicejabDoorRteH
import Derived.Test.YtpcenhaieicejabDoorRteL
import Derived.Test.YtpcenhaieicejabDoorLater
import Derived.BigQuiet
import Derived.Deep.RegionHeld3
import Derived.Deep.CutBlock
namespace Go.Proofs.YtpcenhaieicejabDoor
open Go.RowKit

/-- two rows of targets of the same paths and routes -/
def AlikeT (us ts : List TgtAt) : Prop := us.length = ts.length ∧ ∀ i (h : i < us.length) (h' : i < ts.length), us[i].1 = ts[i].1 ∧ us[i].2.n = ts[i].2.n
theorem alike_of {us ts : List TgtAt} (h : proj us = proj ts) : AlikeT us ts := by
  have hl : us.length = ts.length := by
    have := congrArg List.length h
    rw [proj_len, proj_len] at this
    exact this
  refine ⟨hl, fun i h1 h2 => ?_⟩
  have e := congrArg (·[i]?) h
  simp only [proj, List.getElem?_map, List.getElem?_eq_getElem h1, List.getElem?_eq_getElem h2, Option.map_some, Option.some.injEq, Prod.mk.injEq] at e
  exact ⟨bytes_ext e.1, e.2⟩
theorem proj_memM {ts : List TgtAt} {F : List Tgt} (h : proj ts = F) {t : TgtAt} (ht : t ∈ ts) : (t.1.data.toList, t.2.n) ∈ F := by
  rw [← h]
  exact List.mem_map.2 ⟨t, ht, rfl⟩
theorem projM_one {vs : List TgtAt} {s : Bs} {x : Rt} (h : proj vs = [(s, x)]) : ∃ p r, vs = [(p, r)] ∧ p = ⟨s.toArray⟩ ∧ r.n = x := by
  match vs, h with
  | [(p, r)], h =>
    simp only [proj, List.map_cons, List.map_nil, List.cons.injEq, Prod.mk.injEq, and_true] at h
    exact ⟨p, r, rfl, bytes_ext h.1, h.2⟩
/-- a route with other routes within it -/
def RtAt.with (q : RtAt) (xs : List Rt) (ka : Option Addr) (kc : Nat) : RtAt := ⟨q.n.with xs, q.ma, q.mc, q.ba, q.bc, q.ua, q.uc, ka, kc⟩
theorem with_cells (n : Rt) (xs : List Rt) (ma ba ua ka0 ka : Option Addr) (mc bc uc kc0 kc : Nat) : tCells (RtAt.with ⟨n, ma, mc, ba, bc, ua, uc, ka0, kc0⟩ xs ka kc) = #[.string n.recv, .slice ma n.ms.length mc, .slice ba n.bys.length bc, .int .i64 n.wait, .int .i64 n.every, .int .i64 n.rep, .slice ua n.mute.length uc, .bool n.on, .slice ka xs.length kc] := by cases n; rfl
theorem RtAt.with_ok {w : World} {q : RtAt} (h : q.own w) {xs : List Rt} {ka : Option Addr} {kc : Nat} (hk : HasRts w ka kc xs) : (q.with xs ka kc).ok w := by
  obtain ⟨⟨r, m, b, a, e, p, u, o, k⟩, ma, mc, ba, bc, ua, uc, ka0, kc0⟩ := q
  exact RtAt.of_rts h hk
theorem countRs_app : ∀ (a b : List Rt), countRs (a ++ b) = countRs a + countRs b
  | [], b => by simp [countRs]
  | x :: a, b => by
    have := countRs_app a b
    simp only [List.cons_append, countRs]
    omega
theorem with_count (n : Rt) (xs : List Rt) : (n.with xs).count = 1 + countRs xs := by rw [Rt.count_eq, (with_is n xs).2.2.2.2.2.2.2.2]
theorem strNeZ (s : ByteArray) (h : s ≠ ⟨#[122, 122]⟩) : (s.toList == [122, 122]) = false := by
  have e : ByteArray.toList ⟨#[122, 122]⟩ = [122, 122] := by rw [ByteArray.toList_eq]
  rw [← e, strEq]
  exact decide_eq_false h
theorem cellO (w : World) (p : Addr) (v : Value) (x o : Nat) (hne : x ≠ p.block) : (w.setCell p v).cell? ⟨x, o, none⟩ = w.cell? ⟨x, o, none⟩ := by
  unfold World.cell?; rw [Below.heap_setCell _ _ _ _ hne]
/-- the never-holding route, with the places of its matchers -/
def nevAt (b : Nat) : RtAt := ⟨neverR, some ⟨b, 0, none⟩, 1, none, 0, none, 0, none, 0⟩
theorem nev_ok {w : World} {g m s : Nat} (h1 : Blk w g 49 #[.string ⟨#[122, 122]⟩, .int .i64 1, .slice (some ⟨s, 0, none⟩) 1 1]) (h2 : Blk w s 9 #[.string ⟨#[110, 101, 118, 101, 114]⟩])
    (h3 : m = g) : (nevAt m).ok w := by
  subst h3
  have hs : HasStrs w (some ⟨s, 0, none⟩) 1 [⟨#[110, 101, 118, 101, 114]⟩] := ⟨Nat.le_refl _, by unfold maxLen; omega, (fun x hx => by rw [List.mem_singleton] at hx; subst hx; unfold maxLen; decide), .inr ⟨s, 0, rfl, h2.lt, fun i hi => by
    obtain rfl : i = 0 := by simpa using hi
    exact h2.cell 0⟩⟩
  have hm : HasMats w (some ⟨m, 0, none⟩) 1 [neverM] := ⟨Nat.le_refl _, by unfold maxLen; omega, .inr ⟨m, 0, rfl, h1.lt, fun i hi => by
    obtain rfl : i = 0 := by simpa using hi
    exact ⟨some ⟨s, 0, none⟩, 1, ⟨h1.cell 0, h1.cell 1, h1.cell 2⟩, hs, (by show (2 : Nat) ≤ maxLen; unfold maxLen; omega), (by show (Lit.int .i64 1).wf = true; decide)⟩⟩⟩
  exact .flat _ ⟨⟨hm, HasStrs.nil _ _ _ (Nat.zero_le _), HasStrs.nil _ _ _ (Nat.zero_le _), (by show (1 : Nat) ≤ 1048576; omega), ⟨by show (Lit.int .i64 0).wf = true; decide, by show (Lit.int .i64 1).wf = true; decide, by show (Lit.int .i64 1).wf = true; decide⟩, (by show (1 : Nat) ≤ 1048576; omega), (by show (0 : Nat) ≤ 1048576; omega), (by show (0 : Nat) ≤ 1048576; omega)⟩, Nat.le_refl _, Nat.zero_le _⟩ rfl
def fstAt : RtAt := ⟨firstR, none, 0, none, 0, none, 0, none, 0⟩
theorem fst_ok (w : World) : fstAt.ok w :=
  .flat _ ⟨⟨HasMats.nil w none 0 (by unfold maxLen; omega), HasStrs.nil _ _ _ (Nat.zero_le _), HasStrs.nil _ _ _ (Nat.zero_le _), (by show (5 : Nat) ≤ 1048576; omega), ⟨by show (Lit.int .i64 0).wf = true; decide, by show (Lit.int .i64 1).wf = true; decide, by show (Lit.int .i64 1).wf = true; decide⟩, (by show (0 : Nat) ≤ 1048576; omega), (by show (0 : Nat) ≤ 1048576; omega), (by show (0 : Nat) ≤ 1048576; omega)⟩, Nat.le_refl _, Nat.zero_le _⟩ rfl

set_option maxHeartbeats 12800000 in
set_option maxRecDepth 100000 in
theorem routesMore_walk {w : World} (q : RtAt) (hq : q.ok w) (a : Option Addr) (len c : Nat) (ls : List Lab) (hL0 : ls.length = len ∧ HasLabs w a c ls) :
    Calls Tryd.prog 5 #[.agg (tCells q), .slice a len c] w (BoolB true w) := by
  obtain ⟨rfl, hL⟩ := hL0
  obtain ⟨i0, hi, hz0, hz1, hz2⟩ := info_partsR Tryd.infoR
  have hb0 := (Below.refl w.heap.size w).alloc (Nat.le_refl _) (.cells (tCells q) 26)
  have hB0 := Blk.new w 26 (tCells q)
  have hz0' : (w.alloc (.cells (tCells q) 26)).heap.size = w.heap.size + 1 := by simp
  have hfew := few_any a c ls _ (hL.call hb0)
  have hmany := fun W (hW : Below w.heap.size w W) => (many_any hq W 40 hW (by omega)).mono (fun e w' h => (show (∃ y : Int, e = .returned (.int .i64 y) ∧ Below W.heap.size W w' ∧ ((y = 41 ∧ decide ((40 : Int) < y) = true) ∨ (y = (q.n.count : Int) ∧ q.n.count ≤ 40 ∧ decide ((40 : Int) < y) = false))) from by
    obtain ⟨z, h1, h2, h3, h4, h5⟩ := h
    refine ⟨z, h1, h5, ?_⟩
    by_cases hz : z ≤ 40
    · have := h4 hz
      exact .inr ⟨by rw [this], by omega, decide_eq_false (by omega)⟩
    · exact .inl ⟨by omega, decide_eq_true (by omega)⟩))
  rw [show ((40 : Nat) : Int) = 40 from rfl] at hmany
  obtain ⟨Lf, hLf⟩ : ∃ Lf, fewL ls = Lf := ⟨_, rfl⟩
  rw [hLf] at hfew
  have HFEW := Lib.hid hfew
  have HMANY := Lib.hid hmany
  have HQ := Lib.hid hq
  have HZ0 := Lib.hid hz0'
  have HB0 := Lib.hid hb0
  have hkc := hq.head.2
  clear hfew hmany hq hL hLf hz0' hb0
  obtain ⟨n, ma, mc, ba, bc, ua, uc, ka, kc⟩ := q
  have hwc := fun xs ka' kc' => with_cells n xs ma ba ua ka ka' mc bc uc kc kc'
  have HWC := Lib.hid hwc
  clear hwc
  simp only [tCells] at hB0 HFEW HMANY HZ0 HB0 hkc ⊢
  unfold maxLen at hkc
  go_enter Tryd.func5, Tryd.ntmps5
  go_upto_region 1 with fail
  generalize w.alloc (.cells #[.string n.recv, .slice ma n.ms.length mc, .slice ba n.bys.length bc, .int .i64 n.wait, .int .i64 n.every, .int .i64 n.rep, .slice ua n.mute.length uc, .bool n.on, .slice ka n.kids.length kc] 26) = w1 at *
  go_upto_region 2 with (go_at_call 6; refine HFEW.out.mono ?_; rintro e w2 ⟨a1, c1, rfl, hL2, hfr2, hb2⟩)
  have hB2 := hB0.call hb2
  have hbw2 := bthen HB0.out hb2
  obtain ⟨c0, c1', c2, c3, c4, c5, c6, c7, c8⟩ := hB2.cells9
  go_cut [27] (fun v wy => ∃ u : Bool, v = .bool u ∧ (u = false → n.count ≤ 40 ∧ n.kids.length ≤ 14) ∧ Below w2.heap.size w2 wy)
  case first =>
    by_cases hk14 : n.kids.length ≤ 14
    · have hd : decide ((14 : Int) < (n.kids.length : Int)) = false := decide_eq_false (by omega)
      go_wp2_with (go_at_call 7; refine (HMANY.out _ hbw2).mono ?_; rintro e w3 ⟨y, rfl, hb3, hy⟩; have hB3 := hB2.call hb3; obtain ⟨d0, d1, d2, d3, d4, d5, d6, d7, d8⟩ := hB3.cells9; rcases hy with ⟨rfl, hy1⟩ | ⟨rfl, hy2, hy1⟩)
      · go_meet
        exact ⟨true, rfl, (fun h => by cases h), hb3⟩
      · go_meet
        exact ⟨false, rfl, (fun _ => ⟨hy2, hk14⟩), hb3⟩
    · have hd : decide ((14 : Int) < (n.kids.length : Int)) = true := decide_eq_true (by omega)
      go_wp2_with (go_at_call 7; refine (HMANY.out _ hbw2).mono ?_; rintro e w3 ⟨y, rfl, hb3, hy⟩; have hB3 := hB2.call hb3; obtain ⟨d0, d1, d2, d3, d4, d5, d6, d7, d8⟩ := hB3.cells9; rcases hy with ⟨rfl, hy1⟩ | ⟨rfl, hy2, hy1⟩)
      all_goals
        go_meet
        exact ⟨true, rfl, (fun h => by cases h), hb3⟩
  case rest =>
  obtain ⟨u, rfl, hu, hb3⟩ := hcut
  obtain ⟨w3, hw3⟩ : ∃ W, W = wc := ⟨_, rfl⟩
  subst hw3
  clear c0 c1' c2 c3 c4 c5 c6 c7 c8
  have hbw3 := bthen hbw2 hb3
  cases u with
  | true =>
    have HBW := Lib.hid hbw3
    clear hu
    go_wp2_with (go_at_call 8; refine (alive_any _).mono ?_; rintro e w4 ⟨rfl, hb4⟩)
    go_ret
    exact ⟨rfl, bthen HBW.out hb4⟩
  | false =>
  obtain ⟨hcnt, hk14⟩ := hu rfl
  have hB3 := hB2.call hb3
  have hL3 := hL2.call hb3
  have hf1 := find_any _ a1 c1 Lf w3 (HQ.out.call hbw3) hL3 (by show n.count ≤ 100000; omega)
  have HF1 := Lib.hid hf1
  simp only [tCells] at HF1
  have HBW3 := Lib.hid hbw3
  have HL3 := Lib.hid hL3
  clear hu hf1 hbw3 hL3 hL2 hfr2 hB2 hb2 hbw2 hb3 hB0 HFEW HMANY HB0 HZ0
  obtain ⟨c0, c1', c2, c3, c4, c5, c6, c7, c8⟩ := hB3.cells9
  have HDEP : Hid (findC n Lf = true → rightRt 4 n = true ∧ rightC Lf = true) := Lib.hid (fun h => by
    unfold findC at h
    rw [Bool.and_eq_true] at h
    exact h)
  go_upto_region 5 with (go_at_call 9; refine HF1.out.mono ?_; rintro e w4 (⟨hfc, rfl, hb4⟩ | ⟨hfc, ta, tc, ts, rfl, hpt, htt, hb4⟩))
  · skip
    go_wp2_with (go_at_call 8; refine (alive_any _).mono ?_; rintro e w9 ⟨rfl, hb9⟩)
    go_ret
    exact ⟨rfl, bthen HBW3.out (bthen hb4 hb9)⟩
  · skip
    obtain ⟨hrr, hrc⟩ := HDEP.out hfc
    have hB4 := hB3.call hb4
    have hL4 := HL3.out.call hb4
    have HBW4 := Lib.hid (bthen HBW3.out hb4)
    have HTT := Lib.hid htt
    have HPT := Lib.hid hpt
    have HRR := Lib.hid hrr
    have HRC := Lib.hid hrc
    clear hb4 htt hpt hrr hrc hfc HDEP HF1 HL3 HBW3 hB3 c0 c1' c2 c3 c4 c5 c6 c7 c8
    have hS7 := (Blk.new w4 9 #[.string ⟨#[110, 101, 118, 101, 114]⟩]).alloc (.cells #[.string ⟨#[122, 122]⟩, .int .i64 1, .slice (some ⟨w4.heap.size, 0, none⟩) 1 1] 49)
    have hM7 := Blk.new (w4.alloc (.cells #[.string ⟨#[110, 101, 118, 101, 114]⟩] 9)) 49 #[.string ⟨#[122, 122]⟩, .int .i64 1, .slice (some ⟨w4.heap.size, 0, none⟩) 1 1]
    have hz4 : (w4.alloc (.cells #[.string ⟨#[110, 101, 118, 101, 114]⟩] 9)).heap.size = w4.heap.size + 1 := by simp
    rw [hz4] at hM7
    have hb7 := ((Below.refl w4.heap.size w4).alloc (Nat.le_refl _) (.cells #[.string ⟨#[110, 101, 118, 101, 114]⟩] 9)).alloc (by omega) (.cells #[.string ⟨#[122, 122]⟩, .int .i64 1, .slice (some ⟨w4.heap.size, 0, none⟩) 1 1] 49)
    have hB7 := hB4.call hb7
    have hL7 := hL4.call hb7
    have HBW7 := Lib.hid (bthen HBW4.out hb7)
    have HTT7 := Lib.hid (HTT.out.call hb7)
    have HTS := Lib.hid HTT.out.2.2.1
    clear hz4 hb7 hB4 hL4 HBW4 HTT
    go_upto_region 8 with fail
    generalize (w4.alloc (.cells #[.string ⟨#[110, 101, 118, 101, 114]⟩] 9)).alloc (.cells #[.string ⟨#[122, 122]⟩, .int .i64 1, .slice (some ⟨w4.heap.size, 0, none⟩) 1 1] 49) = w7 at *
    generalize w4.heap.size = s0 at *
    have hcl1 := hL7.1
    have hcl2 := hL7.2.1
    unfold maxLen at hcl2
    have HL7 := Lib.hid hL7
    clear hL7
    rcases get_cases Lf ⟨#[122, 122]⟩ with ⟨J, hJ, hJ1, hJ2, _⟩ | ⟨hJ2, _⟩
    · obtain ⟨lb, lo, rfl, hlb, hlc⟩ := HL7.out.some J hJ
      have HJ2 := Lib.hid hJ2
      clear hJ2
      go_wp2_with fail
      go_loopg [47, 9] (J + 1) (fun gg iv _ wr => ∃ k : Nat, k + gg = J + 1 ∧ gg ≠ 0 ∧ iv = .int .i64 (k : Int) ∧ Below w7.heap.size w7 wr)
      case atStart => exact ⟨0, by omega, by omega, rfl, Below.refl _ _⟩
      case round =>
        obtain ⟨k, hkg, hg0, rfl, hbr⟩ := hrel
        cases gk with
        | zero => exact absurd rfl hg0
        | succ gg =>
          have hkl : k < Lf.length := by omega
          obtain ⟨e0', e1'⟩ := hlc k hkl
          have e0 := cellL hbr e0'
          have e1 := cellL hbr e1'
          have hbn := (Below.refl wr.heap.size wr).alloc (Nat.le_refl _) (.cells #[.string Lf[k].1, .string Lf[k].2] 51)
          have hN := Blk.new wr 51 #[.string Lf[k].1, .string Lf[k].2]
          have n0 := hN.cell 0
          have hbr2 := bthen hbr hbn
          clear e0' e1' hbn hN
          by_cases hkJ : k = J
          · subst hkJ
            rw [hJ1] at e0 n0 hbr2
            have HBR := Lib.hid hbr2
            clear hbr hbr2 hlc
            go_wp2_with (go_at_call 8; refine (alive_any _).mono ?_; rintro e w9 ⟨rfl, hb9⟩)
            go_ret
            exact ⟨rfl, bthen HBW7.out (bthen HBR.out hb9)⟩
          · have hne := strNeZ _ (HJ2.out k (by omega))
            generalize Lf[k] = x at *
            have HBR := Lib.hid hbr2
            clear hbr hbr2 hlc
            go_wp2_with fail
            go_roundg gg
            case measure => omega
            case rel => exact ⟨k + 1, by omega, by omega, by go_num, HBR.out⟩
    · have hnv := never_leads (L := Lf) (fun l hl => by
        obtain ⟨k, hk, rfl⟩ := List.getElem_of_mem hl
        exact hJ2 k hk)
      have HNV := Lib.hid hnv
      have HJ2 := Lib.hid hJ2
      clear hnv hJ2
      go_upto_block 0 with fail
      go_cut [] (fun wy => Below w7.heap.size w7 wy)
      case first =>
        by_cases hl0 : Lf.length = 0
        · have hd : decide ((0 : Int) < (Lf.length : Int)) = false := decide_eq_false (by omega)
          go_wp2_with fail
          refine wp_loop_rounds 1 ?_
          rw [rounds_succ]
          go_wp2_with fail
          go_meet
          exact Below.refl _ _
        · obtain ⟨lb, lo, rfl, hlb, hlc⟩ := HL7.out.some 0 (by omega)
          go_wp2_with fail
          go_loopg [47, 9] Lf.length (fun gg iv _ wr => ∃ k : Nat, k + gg = Lf.length ∧ iv = .int .i64 (k : Int) ∧ Below w7.heap.size w7 wr)
          case atStart => exact ⟨0, by omega, rfl, Below.refl _ _⟩
          case round =>
            obtain ⟨k, hkg, rfl, hbr⟩ := hrel
            cases gk with
            | zero =>
              obtain rfl : k = Lf.length := by omega
              clear hlc
              go_wp2_with fail
              go_meet
              exact hbr
            | succ gg =>
              have hkl : k < Lf.length := by omega
              obtain ⟨e0', e1'⟩ := hlc k hkl
              have e0 := cellL hbr e0'
              have e1 := cellL hbr e1'
              have hbn := (Below.refl wr.heap.size wr).alloc (Nat.le_refl _) (.cells #[.string Lf[k].1, .string Lf[k].2] 51)
              have hN := Blk.new wr 51 #[.string Lf[k].1, .string Lf[k].2]
              have n0 := hN.cell 0
              have hbr2 := bthen hbr hbn
              have hne := strNeZ _ (HJ2.out k hkl)
              generalize Lf[k] = x at *
              have HBR := Lib.hid hbr2
              clear e0' e1' hbn hN hbr hbr2 hlc
              go_wp2_with fail
              go_roundg gg
              case measure => omega
              case rel => exact ⟨k + 1, by omega, by go_num, HBR.out⟩
      case rest =>
      obtain ⟨w8, hw8⟩ : ∃ W, W = wc := ⟨_, rfl⟩
      subst hw8
      have hb8 := hcut
      have hB8 := hB7.call hb8
      have hS8 := hS7.call hb8
      have hM8 := hM7.call hb8
      have HBW8 := Lib.hid (bthen HBW7.out hb8)
      have HTT8 := Lib.hid (HTT7.out.call hb8)
      have HL8 := Lib.hid (HL7.out.call hb8)
      have hg8 := hB8.lt
      clear hcut hb8 hB7 hS7 hM7 HL7 HTT7 HBW7 HJ2
      obtain ⟨c0, c1', c2, c3, c4, c5, c6, c7, c8⟩ := hB8.cells9
      go_upto_region 14 with fail
      go_cut [10, 11] (fun v10 v11 wx => ∃ g1 g2 : Nat, v10 = .pointer (some ⟨g1, 0, none⟩) ∧ v11 = .pointer (some ⟨g2, 0, none⟩) ∧ g1 ≠ g2 ∧ w8.heap.size ≤ g1 ∧ w8.heap.size ≤ g2 ∧
        Blk wx g1 26 #[.string n.recv, .slice ma n.ms.length mc, .slice ba n.bys.length bc, .int .i64 n.wait, .int .i64 n.every, .int .i64 n.rep, .slice ua n.mute.length uc, .bool n.on, .slice ka n.kids.length kc] ∧
        Blk wx g2 26 #[.string n.recv, .slice ma n.ms.length mc, .slice ba n.bys.length bc, .int .i64 n.wait, .int .i64 n.every, .int .i64 n.rep, .slice ua n.mute.length uc, .bool n.on, .slice ka n.kids.length kc] ∧ Below w8.heap.size w8 wx)
      case first =>
        obtain ⟨C, hC⟩ : ∃ C : Array Value, C = #[.string n.recv, .slice ma n.ms.length mc, .slice ba n.bys.length bc, .int .i64 n.wait, .int .i64 n.every, .int .i64 n.rep, .slice ua n.mute.length uc, .bool n.on, .slice ka n.kids.length kc] := ⟨_, rfl⟩
        have hA1 : Blk ((w8.alloc (.cells C 26)).alloc (.cells C 26)).drew w8.heap.size 26 C := (Blk.new w8 _ _).alloc _
        have hA2 : Blk ((w8.alloc (.cells C 26)).alloc (.cells C 26)).drew (w8.heap.size + 1) 26 C := nb1 _ _ _ _
        have hA3 : Below w8.heap.size w8 ((w8.alloc (.cells C 26)).alloc (.cells C 26)).drew := (bal2 (bal2 (Below.refl _ _))).drew
        rw [hC] at hA1 hA2 hA3
        have HA := Lib.hid (And.intro hA1 (And.intro hA2 hA3))
        clear hA1 hA2 hA3 hC
        go_region
        all_goals
          go_wp2_with fail
          go_meet
          first
            | exact ⟨_, _, rfl, rfl, by omega, Nat.le_refl _, Nat.le_succ _, HA.out.1, HA.out.2.1, HA.out.2.2⟩
            | exact ⟨_, _, rfl, rfl, by omega, Nat.le_succ _, Nat.le_refl _, HA.out.2.1, HA.out.1, HA.out.2.2⟩
      case rest =>
      obtain ⟨g1, g2, rfl, rfl, hg12, hg18, hg28, hG1, hG2, hb9⟩ := hcut
      obtain ⟨w9, hw9⟩ : ∃ W, W = wc := ⟨_, rfl⟩
      subst hw9
      have hB9 := hB8.call hb9
      have hM9 := hM8.call hb9
      have HS9 := Lib.hid (hS8.call hb9)
      have HBW9 := Lib.hid (bthen HBW8.out hb9)
      have HB89 := Lib.hid hb9
      have HB8 := Lib.hid hB8
      have hgl1 := hG1.lt
      have hgl2 := hG2.lt
      have hg0g1 : w.heap.size ≠ g1 := by omega
      have hs01 : s0 + 1 ≠ g1 := by have := hM8.lt; omega
      clear hb9 hB8 hS8 hM8 c0 c1' c2 c3 c4 c5 c6 c7 c8
      have hkid : HasRts w ka kc n.kids := HQ.out.rts
      obtain ⟨rs, hrs, hrok, hsrc⟩ := src_rts Tryd.underlying24 hkid
      have hrl : n.kids.length = rs.length := by rw [← hrs, List.length_map]
      have HSRC : Hid (∀ W, Below w9.heap.size w9 W → Src Tryd.prog 9 24 (.slice ka n.kids.length kc) n.kids.length (rtsV rs) W) := Lib.hid (by rw [hrl]; exact fun W hW => hsrc W (bthen HBW9.out hW))
      have HSR0 : Hid (∀ W, Below w.heap.size w W → Src Tryd.prog 9 24 (.slice ka n.kids.length kc) n.kids.length (rtsV rs) W) := Lib.hid (by rw [hrl]; exact hsrc)
      have HRL := Lib.hid hrl
      have HRS := Lib.hid hrs
      have HROK := Lib.hid hrok
      have HLEN := Lib.hid (fun m => (show ([] ++ rs ++ [nevAt m]).length = n.kids.length + 1 by simp [hrl]))
      have HRB : Hid (([] : List RtAt).length + rs.length ≤ 1000000) := Lib.hid (by simp only [List.length_nil]; omega)
      have HRB2 : Hid (([] ++ rs : List RtAt).length + ([nevAt 0] : List RtAt).length ≤ 1000000) := Lib.hid (by simp only [List.nil_append, List.length_cons, List.length_nil]; omega)
      clear hkid hsrc hrl hrs hrok
      have HKP := Lib.hid (fun W (hW : Below w9.heap.size w9 W) => (⟨(hB9.call hW).cell 8, (hM9.call hW).cell 0, (hM9.call hW).cell 1, (hM9.call hW).cell 2⟩ : W.cell? ⟨w.heap.size, 8, none⟩ = some (.slice ka n.kids.length kc) ∧ W.cell? ⟨s0 + 1, 0, none⟩ = some (.string ⟨#[122, 122]⟩) ∧ W.cell? ⟨s0 + 1, 1, none⟩ = some (.int .i64 1) ∧ W.cell? ⟨s0 + 1, 2, none⟩ = some (.slice (some ⟨s0, 0, none⟩) 1 1)))
      have HKS := Lib.hid (fun W v (hW : Below w9.heap.size w9 W) => (show (W.setCell ⟨g1, 8, none⟩ v).cell? ⟨w.heap.size, 8, none⟩ = some (.slice ka n.kids.length kc) ∧ (W.setCell ⟨g1, 8, none⟩ v).cell? ⟨s0 + 1, 0, none⟩ = some (.string ⟨#[122, 122]⟩) ∧ (W.setCell ⟨g1, 8, none⟩ v).cell? ⟨s0 + 1, 1, none⟩ = some (.int .i64 1) ∧ (W.setCell ⟨g1, 8, none⟩ v).cell? ⟨s0 + 1, 2, none⟩ = some (.slice (some ⟨s0, 0, none⟩) 1 1) from by
        obtain ⟨k0, k1, k2, k3⟩ := HKP.out W hW
        exact ⟨(cellO _ _ _ _ _ hg0g1).trans k0, (cellO _ _ _ _ _ hs01).trans k1, (cellO _ _ _ _ _ hs01).trans k2, (cellO _ _ _ _ _ hs01).trans k3⟩))
      have HST := Lib.hid (fun W (hW : Below w9.heap.size w9 W) => And.intro ((hG1.call hW).cell 8) ((hG1.call hW).frozen 8))
      have HG1 := Lib.hid hG1
      have HG2 := Lib.hid hG2
      clear hG1 hG2
      go_upto_region 15 with fail
      go_cut [] (fun wx => ∃ (gx cx mm : Nat), Blk wx g1 26 #[.string n.recv, .slice ma n.ms.length mc, .slice ba n.bys.length bc, .int .i64 n.wait, .int .i64 n.every, .int .i64 n.rep, .slice ua n.mute.length uc, .bool n.on, .slice (some ⟨gx, 0, none⟩) (n.kids.length + 1) cx] ∧
        Blk wx g2 26 #[.string n.recv, .slice ma n.ms.length mc, .slice ba n.bys.length bc, .int .i64 n.wait, .int .i64 n.every, .int .i64 n.rep, .slice ua n.mute.length uc, .bool n.on, .slice ka n.kids.length kc] ∧
        OwnR wx w9.heap.size (.slice (some ⟨gx, 0, none⟩) (n.kids.length + 1) cx) ([] ++ rs ++ [nevAt mm]) ∧ Blk wx mm 49 #[.string ⟨#[122, 122]⟩, .int .i64 1, .slice (some ⟨s0, 0, none⟩) 1 1] ∧ Blk wx s0 9 #[.string ⟨#[110, 101, 118, 101, 114]⟩] ∧ Below w8.heap.size w8 wx ∧ w9.heap.size ≤ wx.heap.size)
      case first =>
        go_region_held3 (fun w' => w'.cell? ⟨w.heap.size, 8, none⟩ = some (.slice ka n.kids.length kc) ∧ w'.cell? ⟨s0 + 1, 0, none⟩ = some (.string ⟨#[122, 122]⟩) ∧ w'.cell? ⟨s0 + 1, 1, none⟩ = some (.int .i64 1) ∧ w'.cell? ⟨s0 + 1, 2, none⟩ = some (.slice (some ⟨s0, 0, none⟩) 1 1))
          (first | exact HKS.out _ _ hb10 | (refine HKP.out _ ?_; (focus ((repeat (first | exact hb8 | exact hb10 | refine Below.drew ?_ | refine bal2 ?_ | exact Below.refl _ _)); done))))
          (first
          | (refine step_appR2 w9 _ (by rfl) (.tmp 58) (.tmp 60) 24 (by rfl) i0 rtZ Tryd.underlying24 hi hz0 hz1 hz2 rfl (.slice (some ⟨w9.heap.size, 0, none⟩) 0 0) [] (by rfl) (.slice ka n.kids.length kc) n.kids.length rs HRL.out (by rfl) HRB.out ?_ ?_ ?_ ?_; (first | exact emp0 _ | exact (emp0 _).alloc _ | exact ((emp0 _).alloc _).alloc _); (refine HSRC.out _ ?_; (focus ((repeat (first | refine Below.drew ?_ | refine bal2 ?_ | exact Below.refl _ _)); done))); (focus ((repeat (first | refine Below.drew ?_ | refine bal2 ?_ | exact Below.refl _ _)); done)); intro v8 W8 hown8 hg8 hb8; have HO8 := Lib.hid hown8; have HG8 := Lib.hid hg8; clear hown8 hg8)
          | (refine step_appR2 w9 _ (by rfl) (.tmp 58) (.tmp 60) 24 (by rfl) i0 rtZ Tryd.underlying24 hi hz0 hz1 hz2 rfl (.slice (some ⟨w9.heap.size + 1, 0, none⟩) 0 0) [] (by rfl) (.slice ka n.kids.length kc) n.kids.length rs HRL.out (by rfl) HRB.out ?_ ?_ ?_ ?_; (first | exact emp1 _ _ | exact (emp1 _ _).alloc _ | exact ((emp1 _ _).alloc _).alloc _); (refine HSRC.out _ ?_; (focus ((repeat (first | refine Below.drew ?_ | refine bal2 ?_ | exact Below.refl _ _)); done))); (focus ((repeat (first | refine Below.drew ?_ | refine bal2 ?_ | exact Below.refl _ _)); done)); intro v8 W8 hown8 hg8 hb8; have HO8 := Lib.hid hown8; have HG8 := Lib.hid hg8; clear hown8 hg8)
          | (refine step_appR2 w9 _ (by rfl) (.tmp 58) (.tmp 60) 24 (by rfl) i0 rtZ Tryd.underlying24 hi hz0 hz1 hz2 rfl (.slice (some ⟨w9.heap.size + 2, 0, none⟩) 0 0) [] (by rfl) (.slice ka n.kids.length kc) n.kids.length rs HRL.out (by rfl) HRB.out ?_ ?_ ?_ ?_; (first | exact emp2 _ _ _ | exact (emp2 _ _ _).alloc _ | exact ((emp2 _ _ _).alloc _).alloc _); (refine HSRC.out _ ?_; (focus ((repeat (first | refine Below.drew ?_ | refine bal2 ?_ | exact Below.refl _ _)); done))); (focus ((repeat (first | refine Below.drew ?_ | refine bal2 ?_ | exact Below.refl _ _)); done)); intro v8 W8 hown8 hg8 hb8; have HO8 := Lib.hid hown8; have HG8 := Lib.hid hg8; clear hown8 hg8)
          | (refine step_appR3 w9 _ (by rfl) (.tmp 61) (.tmp 65) 24 (by rfl) i0 rtZ Tryd.underlying24 hi hz0 hz1 hz2 rfl v8 ([] ++ rs) (by rfl) (.slice (some ⟨W8.heap.size + 1, 0, none⟩) 1 1) 1 [nevAt (W8.heap.size)] rfl (by rfl) HRB2.out (W8.heap.size) 49 #[.string ⟨#[122, 122]⟩, .int .i64 1, .slice (some ⟨s0, 0, none⟩) 1 1] (by decide) ?_ ?_ ?_ ?_ ?_; (first | exact HO8.out | exact HO8.out.alloc _ | exact (HO8.out.alloc _).alloc _); (refine src_one (cs := tCells (nevAt (W8.heap.size))) Tryd.underlying24 ?_ rfl; (first | (first | exact Blk.new _ _ _ | exact nb1 _ _ _ _ | exact nb2 _ _ _ _ _ | exact (Blk.new _ _ _).alloc _ | exact (nb1 _ _ _ _).alloc _ | exact ((Blk.new _ _ _).alloc _).alloc _) | (refine blk_grown HG8.out ?_ ?_; (focus (simp [Value.ownBlock]; done)); (first | exact Blk.new _ _ _ | exact nb1 _ _ _ _ | exact nb2 _ _ _ _ _ | exact (Blk.new _ _ _).alloc _ | exact (nb1 _ _ _ _).alloc _ | exact ((Blk.new _ _ _).alloc _).alloc _)) | (refine Blk.alloc ?_ _; refine blk_grown HG8.out ?_ ?_; (focus (simp [Value.ownBlock]; done)); (first | exact Blk.new _ _ _ | exact nb1 _ _ _ _ | exact nb2 _ _ _ _ _ | exact (Blk.new _ _ _).alloc _ | exact (nb1 _ _ _ _).alloc _ | exact ((Blk.new _ _ _).alloc _).alloc _)))); (focus ((repeat (first | exact hb8 | refine Below.drew ?_ | refine bal2 ?_ | exact Below.refl _ _)); done)); (first | (first | exact Blk.new _ _ _ | exact nb1 _ _ _ _ | exact nb2 _ _ _ _ _ | exact (Blk.new _ _ _).alloc _ | exact (nb1 _ _ _ _).alloc _ | exact ((Blk.new _ _ _).alloc _).alloc _) | (refine blk_grown HG8.out ?_ ?_; (focus (simp [Value.ownBlock]; done)); (first | exact Blk.new _ _ _ | exact nb1 _ _ _ _ | exact nb2 _ _ _ _ _ | exact (Blk.new _ _ _).alloc _ | exact (nb1 _ _ _ _).alloc _ | exact ((Blk.new _ _ _).alloc _).alloc _)) | (refine Blk.alloc ?_ _; refine blk_grown HG8.out ?_ ?_; (focus (simp [Value.ownBlock]; done)); (first | exact Blk.new _ _ _ | exact nb1 _ _ _ _ | exact nb2 _ _ _ _ _ | exact (Blk.new _ _ _).alloc _ | exact (nb1 _ _ _ _).alloc _ | exact ((Blk.new _ _ _).alloc _).alloc _))); intro v10 W10 hown10 hb10 hmm10; have hpair : ∃ m, OwnR W10 w9.heap.size v10 ([] ++ rs ++ [nevAt m]) ∧ Blk W10 m 49 #[.string ⟨#[122, 122]⟩, .int .i64 1, .slice (some ⟨s0, 0, none⟩) 1 1] := ⟨_, hown10, hmm10⟩; clear hown10 hmm10; obtain ⟨mm, hown10, hmm10⟩ := hpair; obtain ⟨gx, cx, hv10, hgx, _, _, _⟩ := hown10.out (by simp); rw [HLEN.out] at hv10; subst hv10; have HO10 := Lib.hid hown10; have HM10 := Lib.hid hmm10; obtain ⟨st1, st2⟩ := HST.out _ hb10; clear hown10 hmm10)
          | (refine step_appR3 w9 _ (by rfl) (.tmp 61) (.tmp 65) 24 (by rfl) i0 rtZ Tryd.underlying24 hi hz0 hz1 hz2 rfl v8 ([] ++ rs) (by rfl) (.slice (some ⟨W8.heap.size, 0, none⟩) 1 1) 1 [nevAt (w9.heap.size + 1)] rfl (by rfl) HRB2.out (w9.heap.size + 1) 49 #[.string ⟨#[122, 122]⟩, .int .i64 1, .slice (some ⟨s0, 0, none⟩) 1 1] (by decide) ?_ ?_ ?_ ?_ ?_; (first | exact HO8.out | exact HO8.out.alloc _ | exact (HO8.out.alloc _).alloc _); (refine src_one (cs := tCells (nevAt (w9.heap.size + 1))) Tryd.underlying24 ?_ rfl; (first | (first | exact Blk.new _ _ _ | exact nb1 _ _ _ _ | exact nb2 _ _ _ _ _ | exact (Blk.new _ _ _).alloc _ | exact (nb1 _ _ _ _).alloc _ | exact ((Blk.new _ _ _).alloc _).alloc _) | (refine blk_grown HG8.out ?_ ?_; (focus (simp [Value.ownBlock]; done)); (first | exact Blk.new _ _ _ | exact nb1 _ _ _ _ | exact nb2 _ _ _ _ _ | exact (Blk.new _ _ _).alloc _ | exact (nb1 _ _ _ _).alloc _ | exact ((Blk.new _ _ _).alloc _).alloc _)) | (refine Blk.alloc ?_ _; refine blk_grown HG8.out ?_ ?_; (focus (simp [Value.ownBlock]; done)); (first | exact Blk.new _ _ _ | exact nb1 _ _ _ _ | exact nb2 _ _ _ _ _ | exact (Blk.new _ _ _).alloc _ | exact (nb1 _ _ _ _).alloc _ | exact ((Blk.new _ _ _).alloc _).alloc _)))); (focus ((repeat (first | exact hb8 | refine Below.drew ?_ | refine bal2 ?_ | exact Below.refl _ _)); done)); (first | (first | exact Blk.new _ _ _ | exact nb1 _ _ _ _ | exact nb2 _ _ _ _ _ | exact (Blk.new _ _ _).alloc _ | exact (nb1 _ _ _ _).alloc _ | exact ((Blk.new _ _ _).alloc _).alloc _) | (refine blk_grown HG8.out ?_ ?_; (focus (simp [Value.ownBlock]; done)); (first | exact Blk.new _ _ _ | exact nb1 _ _ _ _ | exact nb2 _ _ _ _ _ | exact (Blk.new _ _ _).alloc _ | exact (nb1 _ _ _ _).alloc _ | exact ((Blk.new _ _ _).alloc _).alloc _)) | (refine Blk.alloc ?_ _; refine blk_grown HG8.out ?_ ?_; (focus (simp [Value.ownBlock]; done)); (first | exact Blk.new _ _ _ | exact nb1 _ _ _ _ | exact nb2 _ _ _ _ _ | exact (Blk.new _ _ _).alloc _ | exact (nb1 _ _ _ _).alloc _ | exact ((Blk.new _ _ _).alloc _).alloc _))); intro v10 W10 hown10 hb10 hmm10; have hpair : ∃ m, OwnR W10 w9.heap.size v10 ([] ++ rs ++ [nevAt m]) ∧ Blk W10 m 49 #[.string ⟨#[122, 122]⟩, .int .i64 1, .slice (some ⟨s0, 0, none⟩) 1 1] := ⟨_, hown10, hmm10⟩; clear hown10 hmm10; obtain ⟨mm, hown10, hmm10⟩ := hpair; obtain ⟨gx, cx, hv10, hgx, _, _, _⟩ := hown10.out (by simp); rw [HLEN.out] at hv10; subst hv10; have HO10 := Lib.hid hown10; have HM10 := Lib.hid hmm10; obtain ⟨st1, st2⟩ := HST.out _ hb10; clear hown10 hmm10)
          | (refine step_appR3 w9 _ (by rfl) (.tmp 61) (.tmp 65) 24 (by rfl) i0 rtZ Tryd.underlying24 hi hz0 hz1 hz2 rfl v8 ([] ++ rs) (by rfl) (.slice (some ⟨W8.heap.size, 0, none⟩) 1 1) 1 [nevAt (w9.heap.size)] rfl (by rfl) HRB2.out (w9.heap.size) 49 #[.string ⟨#[122, 122]⟩, .int .i64 1, .slice (some ⟨s0, 0, none⟩) 1 1] (by decide) ?_ ?_ ?_ ?_ ?_; (first | exact HO8.out | exact HO8.out.alloc _ | exact (HO8.out.alloc _).alloc _); (refine src_one (cs := tCells (nevAt (w9.heap.size))) Tryd.underlying24 ?_ rfl; (first | (first | exact Blk.new _ _ _ | exact nb1 _ _ _ _ | exact nb2 _ _ _ _ _ | exact (Blk.new _ _ _).alloc _ | exact (nb1 _ _ _ _).alloc _ | exact ((Blk.new _ _ _).alloc _).alloc _) | (refine blk_grown HG8.out ?_ ?_; (focus (simp [Value.ownBlock]; done)); (first | exact Blk.new _ _ _ | exact nb1 _ _ _ _ | exact nb2 _ _ _ _ _ | exact (Blk.new _ _ _).alloc _ | exact (nb1 _ _ _ _).alloc _ | exact ((Blk.new _ _ _).alloc _).alloc _)) | (refine Blk.alloc ?_ _; refine blk_grown HG8.out ?_ ?_; (focus (simp [Value.ownBlock]; done)); (first | exact Blk.new _ _ _ | exact nb1 _ _ _ _ | exact nb2 _ _ _ _ _ | exact (Blk.new _ _ _).alloc _ | exact (nb1 _ _ _ _).alloc _ | exact ((Blk.new _ _ _).alloc _).alloc _)))); (focus ((repeat (first | exact hb8 | refine Below.drew ?_ | refine bal2 ?_ | exact Below.refl _ _)); done)); (first | (first | exact Blk.new _ _ _ | exact nb1 _ _ _ _ | exact nb2 _ _ _ _ _ | exact (Blk.new _ _ _).alloc _ | exact (nb1 _ _ _ _).alloc _ | exact ((Blk.new _ _ _).alloc _).alloc _) | (refine blk_grown HG8.out ?_ ?_; (focus (simp [Value.ownBlock]; done)); (first | exact Blk.new _ _ _ | exact nb1 _ _ _ _ | exact nb2 _ _ _ _ _ | exact (Blk.new _ _ _).alloc _ | exact (nb1 _ _ _ _).alloc _ | exact ((Blk.new _ _ _).alloc _).alloc _)) | (refine Blk.alloc ?_ _; refine blk_grown HG8.out ?_ ?_; (focus (simp [Value.ownBlock]; done)); (first | exact Blk.new _ _ _ | exact nb1 _ _ _ _ | exact nb2 _ _ _ _ _ | exact (Blk.new _ _ _).alloc _ | exact (nb1 _ _ _ _).alloc _ | exact ((Blk.new _ _ _).alloc _).alloc _))); intro v10 W10 hown10 hb10 hmm10; have hpair : ∃ m, OwnR W10 w9.heap.size v10 ([] ++ rs ++ [nevAt m]) ∧ Blk W10 m 49 #[.string ⟨#[122, 122]⟩, .int .i64 1, .slice (some ⟨s0, 0, none⟩) 1 1] := ⟨_, hown10, hmm10⟩; clear hown10 hmm10; obtain ⟨mm, hown10, hmm10⟩ := hpair; obtain ⟨gx, cx, hv10, hgx, _, _, _⟩ := hown10.out (by simp); rw [HLEN.out] at hv10; subst hv10; have HO10 := Lib.hid hown10; have HM10 := Lib.hid hmm10; obtain ⟨st1, st2⟩ := HST.out _ hb10; clear hown10 hmm10)
          | (refine step_appR3 w9 _ (by rfl) (.tmp 61) (.tmp 65) 24 (by rfl) i0 rtZ Tryd.underlying24 hi hz0 hz1 hz2 rfl v8 ([] ++ rs) (by rfl) (.slice (some ⟨w9.heap.size + 2, 0, none⟩) 1 1) 1 [nevAt (w9.heap.size + 1)] rfl (by rfl) HRB2.out (w9.heap.size + 1) 49 #[.string ⟨#[122, 122]⟩, .int .i64 1, .slice (some ⟨s0, 0, none⟩) 1 1] (by decide) ?_ ?_ ?_ ?_ ?_; (first | exact HO8.out | exact HO8.out.alloc _ | exact (HO8.out.alloc _).alloc _); (refine src_one (cs := tCells (nevAt (w9.heap.size + 1))) Tryd.underlying24 ?_ rfl; (first | (first | exact Blk.new _ _ _ | exact nb1 _ _ _ _ | exact nb2 _ _ _ _ _ | exact (Blk.new _ _ _).alloc _ | exact (nb1 _ _ _ _).alloc _ | exact ((Blk.new _ _ _).alloc _).alloc _) | (refine blk_grown HG8.out ?_ ?_; (focus (simp [Value.ownBlock]; done)); (first | exact Blk.new _ _ _ | exact nb1 _ _ _ _ | exact nb2 _ _ _ _ _ | exact (Blk.new _ _ _).alloc _ | exact (nb1 _ _ _ _).alloc _ | exact ((Blk.new _ _ _).alloc _).alloc _)) | (refine Blk.alloc ?_ _; refine blk_grown HG8.out ?_ ?_; (focus (simp [Value.ownBlock]; done)); (first | exact Blk.new _ _ _ | exact nb1 _ _ _ _ | exact nb2 _ _ _ _ _ | exact (Blk.new _ _ _).alloc _ | exact (nb1 _ _ _ _).alloc _ | exact ((Blk.new _ _ _).alloc _).alloc _)))); (focus ((repeat (first | exact hb8 | refine Below.drew ?_ | refine bal2 ?_ | exact Below.refl _ _)); done)); (first | (first | exact Blk.new _ _ _ | exact nb1 _ _ _ _ | exact nb2 _ _ _ _ _ | exact (Blk.new _ _ _).alloc _ | exact (nb1 _ _ _ _).alloc _ | exact ((Blk.new _ _ _).alloc _).alloc _) | (refine blk_grown HG8.out ?_ ?_; (focus (simp [Value.ownBlock]; done)); (first | exact Blk.new _ _ _ | exact nb1 _ _ _ _ | exact nb2 _ _ _ _ _ | exact (Blk.new _ _ _).alloc _ | exact (nb1 _ _ _ _).alloc _ | exact ((Blk.new _ _ _).alloc _).alloc _)) | (refine Blk.alloc ?_ _; refine blk_grown HG8.out ?_ ?_; (focus (simp [Value.ownBlock]; done)); (first | exact Blk.new _ _ _ | exact nb1 _ _ _ _ | exact nb2 _ _ _ _ _ | exact (Blk.new _ _ _).alloc _ | exact (nb1 _ _ _ _).alloc _ | exact ((Blk.new _ _ _).alloc _).alloc _))); intro v10 W10 hown10 hb10 hmm10; have hpair : ∃ m, OwnR W10 w9.heap.size v10 ([] ++ rs ++ [nevAt m]) ∧ Blk W10 m 49 #[.string ⟨#[122, 122]⟩, .int .i64 1, .slice (some ⟨s0, 0, none⟩) 1 1] := ⟨_, hown10, hmm10⟩; clear hown10 hmm10; obtain ⟨mm, hown10, hmm10⟩ := hpair; obtain ⟨gx, cx, hv10, hgx, _, _, _⟩ := hown10.out (by simp); rw [HLEN.out] at hv10; subst hv10; have HO10 := Lib.hid hown10; have HM10 := Lib.hid hmm10; obtain ⟨st1, st2⟩ := HST.out _ hb10; clear hown10 hmm10)
          | (refine step_appR3 w9 _ (by rfl) (.tmp 61) (.tmp 65) 24 (by rfl) i0 rtZ Tryd.underlying24 hi hz0 hz1 hz2 rfl v8 ([] ++ rs) (by rfl) (.slice (some ⟨w9.heap.size + 2, 0, none⟩) 1 1) 1 [nevAt (w9.heap.size)] rfl (by rfl) HRB2.out (w9.heap.size) 49 #[.string ⟨#[122, 122]⟩, .int .i64 1, .slice (some ⟨s0, 0, none⟩) 1 1] (by decide) ?_ ?_ ?_ ?_ ?_; (first | exact HO8.out | exact HO8.out.alloc _ | exact (HO8.out.alloc _).alloc _); (refine src_one (cs := tCells (nevAt (w9.heap.size))) Tryd.underlying24 ?_ rfl; (first | (first | exact Blk.new _ _ _ | exact nb1 _ _ _ _ | exact nb2 _ _ _ _ _ | exact (Blk.new _ _ _).alloc _ | exact (nb1 _ _ _ _).alloc _ | exact ((Blk.new _ _ _).alloc _).alloc _) | (refine blk_grown HG8.out ?_ ?_; (focus (simp [Value.ownBlock]; done)); (first | exact Blk.new _ _ _ | exact nb1 _ _ _ _ | exact nb2 _ _ _ _ _ | exact (Blk.new _ _ _).alloc _ | exact (nb1 _ _ _ _).alloc _ | exact ((Blk.new _ _ _).alloc _).alloc _)) | (refine Blk.alloc ?_ _; refine blk_grown HG8.out ?_ ?_; (focus (simp [Value.ownBlock]; done)); (first | exact Blk.new _ _ _ | exact nb1 _ _ _ _ | exact nb2 _ _ _ _ _ | exact (Blk.new _ _ _).alloc _ | exact (nb1 _ _ _ _).alloc _ | exact ((Blk.new _ _ _).alloc _).alloc _)))); (focus ((repeat (first | exact hb8 | refine Below.drew ?_ | refine bal2 ?_ | exact Below.refl _ _)); done)); (first | (first | exact Blk.new _ _ _ | exact nb1 _ _ _ _ | exact nb2 _ _ _ _ _ | exact (Blk.new _ _ _).alloc _ | exact (nb1 _ _ _ _).alloc _ | exact ((Blk.new _ _ _).alloc _).alloc _) | (refine blk_grown HG8.out ?_ ?_; (focus (simp [Value.ownBlock]; done)); (first | exact Blk.new _ _ _ | exact nb1 _ _ _ _ | exact nb2 _ _ _ _ _ | exact (Blk.new _ _ _).alloc _ | exact (nb1 _ _ _ _).alloc _ | exact ((Blk.new _ _ _).alloc _).alloc _)) | (refine Blk.alloc ?_ _; refine blk_grown HG8.out ?_ ?_; (focus (simp [Value.ownBlock]; done)); (first | exact Blk.new _ _ _ | exact nb1 _ _ _ _ | exact nb2 _ _ _ _ _ | exact (Blk.new _ _ _).alloc _ | exact (nb1 _ _ _ _).alloc _ | exact ((Blk.new _ _ _).alloc _).alloc _))); intro v10 W10 hown10 hb10 hmm10; have hpair : ∃ m, OwnR W10 w9.heap.size v10 ([] ++ rs ++ [nevAt m]) ∧ Blk W10 m 49 #[.string ⟨#[122, 122]⟩, .int .i64 1, .slice (some ⟨s0, 0, none⟩) 1 1] := ⟨_, hown10, hmm10⟩; clear hown10 hmm10; obtain ⟨mm, hown10, hmm10⟩ := hpair; obtain ⟨gx, cx, hv10, hgx, _, _, _⟩ := hown10.out (by simp); rw [HLEN.out] at hv10; subst hv10; have HO10 := Lib.hid hown10; have HM10 := Lib.hid hmm10; obtain ⟨st1, st2⟩ := HST.out _ hb10; clear hown10 hmm10)
          | (refine step_appR3 w9 _ (by rfl) (.tmp 61) (.tmp 65) 24 (by rfl) i0 rtZ Tryd.underlying24 hi hz0 hz1 hz2 rfl v8 ([] ++ rs) (by rfl) (.slice (some ⟨w9.heap.size + 1, 0, none⟩) 1 1) 1 [nevAt (w9.heap.size)] rfl (by rfl) HRB2.out (w9.heap.size) 49 #[.string ⟨#[122, 122]⟩, .int .i64 1, .slice (some ⟨s0, 0, none⟩) 1 1] (by decide) ?_ ?_ ?_ ?_ ?_; (first | exact HO8.out | exact HO8.out.alloc _ | exact (HO8.out.alloc _).alloc _); (refine src_one (cs := tCells (nevAt (w9.heap.size))) Tryd.underlying24 ?_ rfl; (first | (first | exact Blk.new _ _ _ | exact nb1 _ _ _ _ | exact nb2 _ _ _ _ _ | exact (Blk.new _ _ _).alloc _ | exact (nb1 _ _ _ _).alloc _ | exact ((Blk.new _ _ _).alloc _).alloc _) | (refine blk_grown HG8.out ?_ ?_; (focus (simp [Value.ownBlock]; done)); (first | exact Blk.new _ _ _ | exact nb1 _ _ _ _ | exact nb2 _ _ _ _ _ | exact (Blk.new _ _ _).alloc _ | exact (nb1 _ _ _ _).alloc _ | exact ((Blk.new _ _ _).alloc _).alloc _)) | (refine Blk.alloc ?_ _; refine blk_grown HG8.out ?_ ?_; (focus (simp [Value.ownBlock]; done)); (first | exact Blk.new _ _ _ | exact nb1 _ _ _ _ | exact nb2 _ _ _ _ _ | exact (Blk.new _ _ _).alloc _ | exact (nb1 _ _ _ _).alloc _ | exact ((Blk.new _ _ _).alloc _).alloc _)))); (focus ((repeat (first | exact hb8 | refine Below.drew ?_ | refine bal2 ?_ | exact Below.refl _ _)); done)); (first | (first | exact Blk.new _ _ _ | exact nb1 _ _ _ _ | exact nb2 _ _ _ _ _ | exact (Blk.new _ _ _).alloc _ | exact (nb1 _ _ _ _).alloc _ | exact ((Blk.new _ _ _).alloc _).alloc _) | (refine blk_grown HG8.out ?_ ?_; (focus (simp [Value.ownBlock]; done)); (first | exact Blk.new _ _ _ | exact nb1 _ _ _ _ | exact nb2 _ _ _ _ _ | exact (Blk.new _ _ _).alloc _ | exact (nb1 _ _ _ _).alloc _ | exact ((Blk.new _ _ _).alloc _).alloc _)) | (refine Blk.alloc ?_ _; refine blk_grown HG8.out ?_ ?_; (focus (simp [Value.ownBlock]; done)); (first | exact Blk.new _ _ _ | exact nb1 _ _ _ _ | exact nb2 _ _ _ _ _ | exact (Blk.new _ _ _).alloc _ | exact (nb1 _ _ _ _).alloc _ | exact ((Blk.new _ _ _).alloc _).alloc _))); intro v10 W10 hown10 hb10 hmm10; have hpair : ∃ m, OwnR W10 w9.heap.size v10 ([] ++ rs ++ [nevAt m]) ∧ Blk W10 m 49 #[.string ⟨#[122, 122]⟩, .int .i64 1, .slice (some ⟨s0, 0, none⟩) 1 1] := ⟨_, hown10, hmm10⟩; clear hown10 hmm10; obtain ⟨mm, hown10, hmm10⟩ := hpair; obtain ⟨gx, cx, hv10, hgx, _, _, _⟩ := hown10.out (by simp); rw [HLEN.out] at hv10; subst hv10; have HO10 := Lib.hid hown10; have HM10 := Lib.hid hmm10; obtain ⟨st1, st2⟩ := HST.out _ hb10; clear hown10 hmm10))
        all_goals
          go_wp2_with fail
          go_meet
          exact ⟨gx, cx, mm, (HG1.out.call hb10).set 8 _, (HG2.out.call hb10).setO ⟨g1, 8, none⟩ _ (Ne.symm hg12), HO10.out.setE hgl1 8 _, HM10.out.setO ⟨g1, 8, none⟩ _ (blk_ne HM10.out (HG1.out.call hb10) (by decide)), (HS9.out.call hb10).setO ⟨g1, 8, none⟩ _ (blk_ne (HS9.out.call hb10) (HG1.out.call hb10) (by decide)), (bthen HB89.out hb10).setCell (p := ⟨g1, 8, none⟩) hg18 _, by simpa [World.setCell] using hb10.size⟩
      case rest =>
      obtain ⟨gx, cx, mm, hG1, hG2, hox, hmx, hsx, hb10, hz10⟩ := hcut
      obtain ⟨w10, hw10⟩ : ∃ W, W = wc := ⟨_, rfl⟩
      subst hw10
      have hB10 := HB8.out.call hb10
      obtain ⟨d0, d1', d2, d3, d4, d5, d6, d7, d8⟩ := hB10.cells9
      have hgl3 := hG1.lt
      have hgl4 := hG2.lt
      have hkid : HasRts w ka kc n.kids := HQ.out.rts
      have HBW10 := Lib.hid (bthen HBW8.out hb10)
      have hown1 := OwnR.one w10 fstAt w10.heap.size (Nat.le_refl _)
      have hsrc1 : Src Tryd.prog 9 24 (.slice ka n.kids.length kc) n.kids.length (rtsV rs) (w10.alloc (.cells (tCells fstAt) 26)) := HSR0.out _ (bthen HBW10.out ((Below.refl w10.heap.size w10).alloc (Nat.le_refl _) _))
      have hb10a := (Below.refl w10.heap.size w10).alloc (Nat.le_refl _) (.cells (tCells fstAt) 26)
      have e8 : (w10.alloc (.cells #[.string ⟨#[102, 105, 114, 115, 116]⟩, .slice none 0 0, .slice none 0 0, .int .i64 0, .int .i64 1, .int .i64 1, .slice none 0 0, .bool false, .slice none 0 0] 26)).cell? ⟨w.heap.size, 8, none⟩ = some (.slice ka n.kids.length kc) := (hB10.call hb10a).cell 8
      have HRB1 : Hid (([fstAt] : List RtAt).length + rs.length ≤ 1000000) := Lib.hid (by have := HRB.out; simp only [List.length_nil, List.length_cons] at this ⊢; have := HRL.out; omega)
      have HLEN1 : Hid (([fstAt] ++ rs : List RtAt).length = 1 + n.kids.length) := Lib.hid (by rw [List.length_append, HRL.out]; rfl)
      go_upto_region 17 with (refine wpList_appR _ (by rfl) (.tmp 69) (.tmp 71) 24 (by rfl) w10.heap.size i0 rtZ Tryd.underlying24 hi hz0 hz1 hz2 rfl (.slice (some ⟨w10.heap.size, 0, none⟩) 1 1) [fstAt] (by rfl) hown1 (.slice ka n.kids.length kc) n.kids.length rs HRL.out (by rfl) hsrc1 HRB1.out hb10a.size ?_; intro v11 W11 hown11 hg11; have hb11 := OwnR.grown hown1 hb10a (Nat.le_refl _) hb10a.size hg11; obtain ⟨gy, cy, hv11, hgy, _, _, _⟩ := hown11.out (by simp); rw [HLEN1.out] at hv11; subst hv11; have st1 := (hG2.call hb11).cell 8; have st2 := (hG2.call hb11).frozen 8)
      have hoy := hown11.setE hgl4 8 (.slice (some ⟨gy, 0, none⟩) (1 + n.kids.length) cy)
      have hox2 := (hox.call hb11).setE hgl2 8 (.slice (some ⟨gy, 0, none⟩) (1 + n.kids.length) cy)
      have hmx2 := (hmx.call hb11).setO ⟨g2, 8, none⟩ (.slice (some ⟨gy, 0, none⟩) (1 + n.kids.length) cy) (blk_ne (hmx.call hb11) (hG2.call hb11) (by decide))
      have hsx2 := (hsx.call hb11).setO ⟨g2, 8, none⟩ (.slice (some ⟨gy, 0, none⟩) (1 + n.kids.length) cy) (blk_ne (hsx.call hb11) (hG2.call hb11) (by decide))
      have hG1f := (hG1.call hb11).setO ⟨g2, 8, none⟩ (.slice (some ⟨gy, 0, none⟩) (1 + n.kids.length) cy) hg12
      have hG2f : Blk (W11.setCell ⟨g2, 8, none⟩ (.slice (some ⟨gy, 0, none⟩) (1 + n.kids.length) cy)) g2 26 #[.string n.recv, .slice ma n.ms.length mc, .slice ba n.bys.length bc, .int .i64 n.wait, .int .i64 n.every, .int .i64 n.rep, .slice ua n.mute.length uc, .bool n.on, .slice (some ⟨gy, 0, none⟩) (1 + n.kids.length) cy] := (hG2.call hb11).set 8 _
      have hbf8 : Below w8.heap.size w8 (W11.setCell ⟨g2, 8, none⟩ (.slice (some ⟨gy, 0, none⟩) (1 + n.kids.length) cy)) := (bthen hb10 hb11).setCell (p := ⟨g2, 8, none⟩) hg28 _
      have hbf := bthen HBW8.out hbf8
      clear st1 st2 hown11 hg11 hb11 hox hmx hsx hG1 hG2 hb10 hown1 hsrc1 hb10a e8 d0 d1' d2 d3 d4 d5 d6 d7 d8 hB10
      generalize W11.setCell ⟨g2, 8, none⟩ (.slice (some ⟨gy, 0, none⟩) (1 + n.kids.length) cy) = wf at *
      obtain ⟨ax1, cx1, e1, hh1⟩ := hox2.rts (by simp) (fun r hr => by
        rw [List.nil_append, List.mem_append, List.mem_singleton] at hr
        rcases hr with hr | rfl
        · exact (HROK.out r hr).call hbf
        · exact nev_ok hmx2 hsx2 rfl)
      rw [HLEN.out] at e1
      simp only [Value.slice.injEq, true_and] at e1
      obtain ⟨rfl, rfl⟩ := e1
      rw [List.nil_append, List.map_append, HRS.out] at hh1
      obtain ⟨ay1, cy1, e2, hh2⟩ := hoy.rts (by simp) (fun r hr => by
        rw [List.mem_append, List.mem_singleton] at hr
        rcases hr with rfl | hr
        · exact fst_ok _
        · exact (HROK.out r hr).call hbf)
      rw [HLEN1.out] at e2
      simp only [Value.slice.injEq, true_and] at e2
      obtain ⟨rfl, rfl⟩ := e2
      rw [List.map_append, HRS.out] at hh2
      have hownq := (HQ.out.own).call hbf
      have hk1 : RtAt.ok wf (RtAt.with ⟨n, ma, mc, ba, bc, ua, uc, ka, kc⟩ (n.kids ++ [neverR]) (some ⟨gx, 0, none⟩) cx) := RtAt.with_ok hownq hh1
      have hk2 : RtAt.ok wf (RtAt.with ⟨n, ma, mc, ba, bc, ua, uc, ka, kc⟩ (firstR :: n.kids) (some ⟨gy, 0, none⟩) cy) := RtAt.with_ok hownq hh2
      have hce := n.count_eq
      have hn1 : countRs [neverR] = 1 := by decide
      have hn2 : firstR.count = 1 := by decide
      have hf2 := fun W (hW : Below wf.heap.size wf W) => find_any _ a1 c1 Lf W (hk1.call hW) (HL8.out.call (bthen hbf8 hW)) (by show (n.with _).count ≤ 100000; rw [with_count, countRs_app, hn1]; omega)
      have hf3 := fun W (hW : Below wf.heap.size wf W) => find_any _ a1 c1 Lf W (hk2.call hW) (HL8.out.call (bthen hbf8 hW)) (by show (n.with _).count ≤ 100000; rw [with_count]; simp only [countRs, hn2]; omega)
      rw [HWC.out, show (n.kids ++ [neverR]).length = n.kids.length + 1 by simp] at hf2
      rw [HWC.out, show (firstR :: n.kids).length = 1 + n.kids.length by rw [List.length_cons]; omega] at hf3
      have hr1 : findC (n.with (n.kids ++ [neverR])) Lf = true := by
        unfold findC
        rw [HRC.out, show rteC (n.with (n.kids ++ [neverR])) = true from right_with HRR.out (by rw [List.all_append, right_kids HRR.out, List.all_cons, never_right]; rfl) (by simp; omega)]
        rfl
      have hr2 : findC (n.with (firstR :: n.kids)) Lf = true := by
        unfold findC
        rw [HRC.out, show rteC (n.with (firstR :: n.kids)) = true from right_with HRR.out (by rw [List.all_cons, right_kids HRR.out, first_right]; rfl) (by rw [List.length_cons]; omega)]
        rfl
      have hfm := find_more HNV.out n []
      have hff := find_firstR HRC.out n
      have HF2 := Lib.hid (fun W (hW : Below wf.heap.size wf W) => (hf2 W hW).mono (fun e w' (h : FindP _ _ _ e w') => (show ∃ ua2 uc2 us, e = .returned (.tuple #[.slice ua2 ts.length uc2, .int .i64 0]) ∧ AlikeT us ts ∧ HasTgts w' ua2 uc2 us ∧ Below W.heap.size W w' from by
        rcases h with ⟨h0, _⟩ | ⟨_, ua2, uc2, us, h1, h2, h3, h4⟩
        · exact absurd (hr1.symm.trans h0) (by decide)
        · have hal : AlikeT us ts := alike_of (by rw [h2, HPT.out]; exact hfm)
          exact ⟨ua2, uc2, us, by rw [← hal.1]; exact h1, hal, h3, h4⟩)))
      have HF3 := Lib.hid (fun W (hW : Below wf.heap.size wf W) => (hf3 W hW).mono (fun e w' (h : FindP _ _ _ e w') => (show ∃ vb vo vc, e = .returned (.tuple #[.slice (some ⟨vb, vo, none⟩) 1 vc, .int .i64 0]) ∧ 1 ≤ vc ∧ w'.cell? ⟨vb, vo, none⟩ = some (.string ⟨#[46, 48]⟩) ∧ w'.cell? ⟨vb, vo + 1, none⟩ = some (.string ⟨#[102, 105, 114, 115, 116]⟩) ∧ Below W.heap.size W w' from by
        rcases h with ⟨h0, _⟩ | ⟨_, va, vc, vs, h1, h2, h3, h4⟩
        · exact absurd (hr2.symm.trans h0) (by decide)
        · have h5 : proj vs = [([46, 48], firstR)] := h2.trans hff
          obtain ⟨p, r, rfl, hp, hr⟩ := projM_one h5
          obtain ⟨g3, _, _, h6⟩ := h3
          rcases h6 with h6 | ⟨vb, vo, rfl, _, h7⟩
          · cases h6
          · have h8 := h7 0 (by simp)
            refine ⟨vb, vo, vc, h1, g3, ?_, ?_, h4⟩
            · have := h8.1
              rw [Nat.zero_mul, Nat.add_zero] at this
              rw [this, show (([(p, r)] : List TgtAt)[0]).1 = p from rfl, hp]
            · have := h8.2.1
              rw [Nat.zero_mul, Nat.add_zero] at this
              rw [this]
              show some (Value.string r.n.recv) = _
              rw [hr]
              rfl)))
      have HBF := Lib.hid hbf
      have HBF8 := Lib.hid hbf8
      have HTF := Lib.hid (HTT8.out.call hbf8)
      have HPATH := Lib.hid (fun t (ht : t ∈ ts) => Rt.find_bare Lf n [] _ (proj_memM HPT.out ht))
      clear hf2 hf3 hr1 hr2 hfm hff hbf hbf8 hk1 hk2 hownq hh1 hh2 hoy hox2 hmx2 hsx2 hce hn1 hn2 HKP HKS HST
      obtain ⟨x0, x1, x2, x3, x4, x5, x6, x7, x8⟩ := hG1f.cells9
      go_upto_region 18 with (go_at_call 9; refine (HF2.out _ (Below.refl _ _)).mono ?_; rintro e w12 ⟨ua2, uc2, us, rfl, hal, hus, hb12⟩)
      clear x0 x1 x2 x3 x4 x5 x6 x7 x8
      obtain ⟨y0, y1, y2, y3, y4, y5, y6, y7, y8⟩ := (hG2f.call hb12).cells9
      go_upto_region 19 with (go_at_call 9; refine (HF3.out _ hb12).mono ?_; rintro e w13 ⟨vb, vo, vc, rfl, hvc, hv1, hv2, hb13⟩)
      clear y0 y1 y2 y3 y4 y5 y6 y7 y8
      go_upto_region 21 with (go_at_call 8; refine (alive_any _).mono ?_; rintro e w14 ⟨rfl, hb14⟩)
      have hts9 := ((HTF.out.call hb12).call hb13).call hb14
      have hus9 := (hus.call hb13).call hb14
      have hbw9 := bthen HBF.out (bthen hb12 (bthen hb13 hb14))
      have HBW9 := Lib.hid hbw9
      have HLO := Lib.hid hal
      clear hb12 hb13 hb14 hus hal hbw9 HTF HBF HBF8 hG1f hG2f hv1 hv2
      generalize w14 = wa at *
      by_cases hz : ts.length = 0
      · have hd : decide ((0 : Int) < (ts.length : Int)) = false := decide_eq_false (by omega)
        go_wp2_with fail
        refine wp_loop_rounds 1 ?_
        rw [rounds_succ]
        go_wp2_with fail
        go_ret
        exact ⟨rfl, HBW9.out⟩
      have hul := HLO.out.1
      obtain ⟨ht1, ht2, ht3, ht4⟩ := hts9
      obtain ⟨hu1, hu2, hu3, hu4⟩ := hus9
      obtain ⟨tb, tof, rfl, _, htc⟩ : ∃ b off, ta = some ⟨b, off, none⟩ ∧ b < wa.heap.size ∧ ∀ i (h : i < ts.length), TgtLies wa b (off + i * 10) ts[i] := by
        rcases ht4 with h | h
        · exact absurd (by rw [h]; rfl) hz
        · exact h
      obtain ⟨ub, uof, rfl, _, huc⟩ : ∃ b off, ua2 = some ⟨b, off, none⟩ ∧ b < wa.heap.size ∧ ∀ i (h : i < us.length), TgtLies wa b (off + i * 10) us[i] := by
        rcases hu4 with h | h
        · exact absurd (by rw [← hul, h]; rfl) hz
        · exact h
      have HT := Lib.hid htc
      have HU := Lib.hid huc
      have HT3 := Lib.hid ht3
      have HU3 := Lib.hid hu3
      have HUL := Lib.hid hul
      unfold maxLen at ht2 hu2
      have hu1' : ts.length ≤ uc2 := by omega
      clear htc huc ht3 hu3 ht4 hu4 hul hz hu1
      go_wp2_with fail
      go_loopg [125, 16] ts.length (fun gg iv _ wr => ∃ k : Nat, k + gg = ts.length ∧ iv = .int .i64 (k : Int) ∧ Below wa.heap.size wa wr)
      case atStart => exact ⟨0, by omega, rfl, Below.refl _ _⟩
      case round =>
        obtain ⟨k, hkg, rfl, hbr⟩ := hrel
        cases gk with
        | zero =>
          obtain rfl : k = ts.length := by omega
          have HBR := Lib.hid hbr
          clear hbr
          go_wp2_with fail
          go_ret
          exact ⟨rfl, bthen HBW9.out HBR.out⟩
        | succ gg =>
          have hkl : k < ts.length := by omega
          have hku : k < us.length := by have := HUL.out; omega
          obtain ⟨hx1, hx2⟩ := HLO.out.2 k hku hkl
          have hbk := HPATH.out _ (List.getElem_mem hkl)
          have hto := (HT3.out _ (List.getElem_mem hkl)).own
          have huo := (HU3.out _ (List.getElem_mem hku)).own
          have htl := HT.out k hkl
          have hul := HU.out k hku
          generalize ts[k] = t at *
          generalize us[k] = u at *
          obtain ⟨up, uq⟩ := u
          obtain ⟨tp, tq⟩ := t
          simp only at hx1 hx2 hbk hto huo
          subst hx1
          have hlk := fun W (hW : Below wa.heap.size wa W) => rLikeFlat_any uq tq hx2 (by rw [hx2]; exact hbk) W (huo.call hW) (hto.call hW)
          have hrw := fun x => bthen hbr (later_below wr x)
          have t0 := fun x => cellL (hrw x) htl.1
          obtain ⟨tl0, tl1, tl2, tl3, tl4, tl5, tl6, tl7, tl8⟩ := htl.2
          have t1 := fun x => cellL (hrw x) tl0
          have t2 := fun x => cellL (hrw x) tl1
          have t3 := fun x => cellL (hrw x) tl2
          have t4 := fun x => cellL (hrw x) tl3
          have t5 := fun x => cellL (hrw x) tl4
          have t6 := fun x => cellL (hrw x) tl5
          have t7 := fun x => cellL (hrw x) tl6
          have t8 := fun x => cellL (hrw x) tl7
          have t9 := fun x => cellL (hrw x) tl8
          have u0 := fun x => cellL (hrw x) hul.1
          obtain ⟨ul0, ul1, ul2, ul3, ul4, ul5, ul6, ul7, ul8⟩ := hul.2
          have u1 := fun x => cellL (hrw x) ul0
          have u2 := fun x => cellL (hrw x) ul1
          have u3 := fun x => cellL (hrw x) ul2
          have u4 := fun x => cellL (hrw x) ul3
          have u5 := fun x => cellL (hrw x) ul4
          have u6 := fun x => cellL (hrw x) ul5
          have u7 := fun x => cellL (hrw x) ul6
          have u8 := fun x => cellL (hrw x) ul7
          have u9 := fun x => cellL (hrw x) ul8
          have HLK := Lib.hid hlk
          have HBR := Lib.hid hbr
          clear hlk hbr hto huo htl hul hx2 hbk hrw tl0 tl1 tl2 tl3 tl4 tl5 tl6 tl7 tl8 ul0 ul1 ul2 ul3 ul4 ul5 ul6 ul7 ul8
          simp only [tCells] at HLK
          go_upto_region 24 with fail
          refine wp_region_later (by kernel_rfl) (by kernel_rfl) ?_
          repeat (go_big_quiet_step ((go_at_call 13; exact calls_later (HLK.out _ (bthen HBR.out (later_below _ _))))))
          refine wpQuiet_nil ?_
          rintro _ ⟨x, rfl⟩
          have hb2 := bthen HBR.out (later_below wr x)
          generalize later wr x = wn at *
          go_wp2_with fail
          go_roundg gg
          case measure => omega
          case rel => exact ⟨k + 1, by omega, by go_num, hb2⟩
end Go.Proofs.YtpcenhaieicejabDoor
