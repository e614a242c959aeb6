/- The contract of the closure of routes.Find. -/
import Derived.Test.YtmhehojjlacfoaaDoorMg6
import Derived.Test.YtmhehojjlacfoaaDoorShelf
import Derived.Test.YtmhehojjlacfoaaDoorMg3
import Derived.Deep.CutBlock
import Derived.Deep.RegionHeld3
namespace Go.Proofs.YtmhehojjlacfoaaDoor
open Go.RowKit

abbrev leadF (fB lB dB : Nat) : Value := .func (.func 17) #[] #[.pointer (some ⟨fB, 0, none⟩), .pointer (some ⟨lB, 0, none⟩), .pointer (some ⟨dB, 0, none⟩)]
/-- what the closure finds: the row found so far, the labels, itself -/
structure LeadW (w0 : World) (a : Option Addr) (c : Nat) (ls : List Lab) (fB lB dB : Nat) (W : World) (v : Value) (ts : List TgtAt) : Prop where
  below : Below w0.heap.size w0 W
  found : Blk W fB 31 #[v]
  own : OwnT W w0.heap.size v ts
  labs : Blk W lB 27 #[.slice a ls.length c]
  lead : Blk W dB 46 #[leadF fB lB dB]
theorem LeadW.call {w0 W W1 : World} {a : Option Addr} {c : Nat} {ls : List Lab} {fB lB dB : Nat} {v : Value} {ts : List TgtAt} (h : LeadW w0 a c ls fB lB dB W v ts) (hb : Below W.heap.size W W1) : LeadW w0 a c ls fB lB dB W1 v ts :=
  ⟨h.below.trans (hb.mono h.below.size), h.found.call hb, h.own.call hb, h.labs.call hb, h.lead.call hb⟩
def proj (ts : List TgtAt) : List Tgt := ts.map fun t => (t.1.data.toList, t.2.n)
theorem proj_app (a b : List TgtAt) : proj (a ++ b) = proj a ++ proj b := by simp [proj]
theorem proj_len (a : List TgtAt) : (proj a).length = a.length := by simp [proj]
def LeadP (w0 : World) (a : Option Addr) (c : Nat) (ls : List Lab) (fB lB dB : Nat) (W : World) (ts : List TgtAt) (F : List Tgt) (e : Ending) (W' : World) : Prop :=
  ∃ v' ts', e = .returned (.tuple #[]) ∧ proj ts' = proj ts ++ F ∧ (∀ t ∈ ts', t.2.ok w0) ∧ LeadW w0 a c ls fB lB dB W' v' ts' ∧ FrT fB w0.heap.size W W'
/-- the closure's contract at one route -/
def LeadAll (w0 : World) (a : Option Addr) (c : Nat) (ls : List Lab) (fB lB dB : Nat) (q : RtAt) : Prop :=
  ∀ (d : Nat) (W : World) (p : ByteArray) (v : Value) (ts : List TgtAt), rightRt d q.n = true → p.size + 8 * d ≤ 1000 → ts.length + q.n.count ≤ 100000 → (∀ t ∈ ts, t.2.ok w0) → LeadW w0 a c ls fB lB dB W v ts →
    Calls Tryd.prog 17 #[.string p, .agg (tCells q), .pointer (some ⟨fB, 0, none⟩), .pointer (some ⟨lB, 0, none⟩), .pointer (some ⟨dB, 0, none⟩)] W (LeadP w0 a c ls fB lB dB W ts (q.n.find ls p.data.toList))
theorem bare_is (n : Rt) : n.bare.recv = n.recv ∧ n.bare.ms = n.ms ∧ n.bare.bys = n.bys ∧ n.bare.wait = n.wait ∧ n.bare.every = n.every ∧ n.bare.rep = n.rep ∧ n.bare.mute = n.mute ∧ n.bare.on = n.on ∧ n.bare.kids = [] := by cases n; exact ⟨rfl, rfl, rfl, rfl, rfl, rfl, rfl, rfl, rfl⟩
def RtAt.bare (q : RtAt) : RtAt := ⟨q.n.bare, q.ma, q.mc, q.ba, q.bc, q.ua, q.uc, none, 0⟩
theorem RtAt.bare_ok {w : World} {q : RtAt} (h : q.own w) : q.bare.ok w := by
  obtain ⟨⟨r, m, b, a, e, p, u, o, k⟩, _⟩ := q
  exact .flat _ ⟨h, Nat.le_refl _, by show 0 ≤ maxLen; omega⟩ rfl
theorem tgV_bare (p : ByteArray) (n : Rt) (ma ba ua ka : Option Addr) (mc bc uc kc : Nat) : tgV (p, RtAt.bare ⟨n, ma, mc, ba, bc, ua, uc, ka, kc⟩) =
    [.string p, .string n.recv, .slice ma n.ms.length mc, .slice ba n.bys.length bc, .int .i64 n.wait, .int .i64 n.every, .int .i64 n.rep, .slice ua n.mute.length uc, .bool n.on, .slice none 0 0] := by cases n; rfl
theorem Blk.set9 {w : World} {g : Nat} {t : TypeId} {x0 x1 x2 x3 x4 x5 x6 x7 x8 : Value} (h : Blk w g t #[x0, x1, x2, x3, x4, x5, x6, x7, x8]) (u : Value) : Blk (w.setCell ⟨g, 8, none⟩ u) g t #[x0, x1, x2, x3, x4, x5, x6, x7, u] := h.set 8 u
theorem FrT.setNew {f base g : Nat} {w w' : World} (h : FrT f base w w') (hg : w.heap.size ≤ g) (hb : base ≤ g) (i : Nat) (u : Value) : FrT f base w (w'.setCell ⟨g, i, none⟩ u) :=
  ⟨h.os, h.tape, h.output, by simpa [World.setCell] using h.size, fun k hk hne => (Below.heap_setCell w' ⟨g, i, none⟩ u k (by show k ≠ g; omega)).trans (h.old k hk hne), fun k hk hne ht => (Below.heap_setCell w' ⟨g, i, none⟩ u k (by show k ≠ g; omega)).trans (h.oth k hk hne ht)⟩
theorem Blk.grown {w w1 : World} {g : Nat} {t : TypeId} {cs : Array Value} {r : Option Nat} (h : Blk w g t cs) (hg : w.grownBy w1 r) (hne : some g ≠ r) : Blk w1 g t cs := (hg.block g h.lt hne).trans h

set_option maxHeartbeats 12800000 in
set_option maxRecDepth 100000 in
theorem lead_step {w0 : World} {a : Option Addr} {c : Nat} {ls : List Lab} (hls : HasLabs w0 a c ls) (hrl : rightC ls = true) {fB lB dB : Nat} (hf : w0.heap.size ≤ fB) (hlf : lB ≠ fB) (hdf : dB ≠ fB) (q : RtAt) (hq : q.own w0) (hkc : q.n.kids.length ≤ q.kc ∧ q.kc ≤ maxLen)
    (HK : q.n.kids = [] ∨ ∃ b off, q.ka = some ⟨b, off, none⟩ ∧ b < w0.heap.size ∧ ∀ i (h : i < q.n.kids.length), ∃ r : RtAt, r.n = q.n.kids[i] ∧ r.lies w0 b (off + i * 9) ∧ r.ok w0 ∧ LeadAll w0 a c ls fB lB dB r) : LeadAll w0 a c ls fB lB dB q := by
  intro d W p v ts hr hpd hcnt hok hL
  obtain ⟨i0, hi, hz0, hz1, hz2⟩ := info_partsT Tryd.infoT
  obtain ⟨hal, hkr⟩ := rightRt_kid hr
  have h16 := (alone_kids hal).1
  have hb := (Below.refl W.heap.size W).alloc (Nat.le_refl _) (.cells (tCells q) 26)
  have hB := Blk.new W 26 (tCells q)
  have hL1 := hL.call hb
  have hfr1 : FrT fB w0.heap.size W (W.alloc (.cells (tCells q) 26)) := FrT.of hb hL.below.size
  have hgf : W.heap.size ≠ fB := by have := hL.found.lt; omega
  have hgb : w0.heap.size ≤ W.heap.size := hL.below.size
  have hlg : lB ≠ W.heap.size := by have := hL.labs.lt; omega
  have hdg : dB ≠ W.heap.size := by have := hL.lead.lt; omega
  have hfe := Rt.find_eq ls p.data.toList q.n
  have hce := q.n.count_eq
  have hbo := RtAt.bare_ok hq
  obtain ⟨a0, c0, rfl, ha0, hc0⟩ := hL1.own.slice
  have HIT := Lib.hid (fun (i : Nat) (hi : i < 100) W => Tryd.strconv_Itoa_small i hi W)
  have HLS := Lib.hid hls
  have HFR1 := Lib.hid hfr1
  have HFE := Lib.hid hfe
  have HCE := Lib.hid hce
  have HBO := Lib.hid hbo
  have HOK := Lib.hid hok
  have HK2 := Lib.hid HK
  have HKR := Lib.hid hkr
  have HPD := Lib.hid hpd
  have HCNT := Lib.hid hcnt
  clear hr hal hb hL hfr1 hfe hce hls hq hok HK hkr hbo hpd hcnt
  obtain ⟨n, ma, mc, ba, bc, ua, uc, ka, kc⟩ := q
  simp only [tCells] at *
  unfold maxLen at hkc hc0
  go_enter Tryd.func17, Tryd.ntmps17
  go_upto_region 1 with fail
  generalize W.alloc (.cells #[.string n.recv, .slice ma n.ms.length mc, .slice ba n.bys.length bc, .int .i64 n.wait, .int .i64 n.every, .int .i64 n.rep, .slice ua n.mute.length uc, .bool n.on, .slice ka n.kids.length kc] 26) = wx at *
  obtain ⟨g, hgW⟩ : ∃ g, W.heap.size = g := ⟨_, rfl⟩
  have HWG := Lib.hid (Nat.le_of_eq hgW)
  rw [hgW] at hB hgf hgb hlg hdg ⊢
  clear hgW
  have g1 := hL1.found.cell1
  obtain ⟨c0', c1, c2, c3, c4, c5, c6, c7, c8⟩ := hB.cells9
  go_upto_block 0 with fail
  clear g1 c0' c1 c2 c3 c4 c5 c6 c7 c8
  go_cut [17] (fun _ wy => ∃ (v2 : Value) (ts2 : List TgtAt), LeadW w0 a c ls fB lB dB wy v2 ts2 ∧ FrT fB w0.heap.size wx wy ∧ proj ts2 = proj ts ++ findRs ls p.data.toList 0 n.kids ∧ (∀ t ∈ ts2, t.2.ok w0))
  case first =>
    by_cases hz : n.kids.length = 0
    · have hk0 : n.kids = [] := List.eq_nil_of_length_eq_zero hz
      have hfin : findRs ls p.data.toList 0 n.kids = [] := by rw [hk0]; simp [findRs]
      have HF := Lib.hid hfin
      clear hk0 hfin
      go_wp2_with fail
      refine wp_loop_rounds 1 ?_
      rw [rounds_succ]
      go_wp2_with fail
      go_meet
      exact ⟨_, ts, hL1, FrT.refl _ _ _, by rw [HF.out, List.append_nil], HOK.out⟩
    · obtain ⟨kb, ko, rfl, hkb, hkk⟩ : ∃ b off, ka = some ⟨b, off, none⟩ ∧ b < w0.heap.size ∧ ∀ i (h : i < n.kids.length), ∃ r : RtAt, r.n = n.kids[i] ∧ r.lies w0 b (off + i * 9) ∧ r.ok w0 ∧ LeadAll w0 a c ls fB lB dB r := by
        rcases HK2.out with h | h
        · exact absurd (by rw [h]; rfl) hz
        · exact h
      have HKK := Lib.hid hkk
      clear hkk HK2
      go_wp2_with fail
      go_loopg [17, 8, 9, 10, 11] n.kids.length (fun gg iv _ _ _ _ wr => ∃ (k : Nat) (vk : Value) (tk : List TgtAt), k + gg = n.kids.length ∧ iv = .int .i64 (k : Int) ∧ LeadW w0 a c ls fB lB dB wr vk tk ∧ FrT fB w0.heap.size wx wr ∧
        Hid (proj tk ++ findRs ls p.data.toList k (n.kids.drop k) = proj ts ++ findRs ls p.data.toList 0 n.kids) ∧ Hid (∀ t ∈ tk, t.2.ok w0) ∧ Hid (tk.length + countRs (n.kids.drop k) ≤ ts.length + countRs n.kids))
      case atStart => exact ⟨0, _, ts, by omega, rfl, hL1, FrT.refl _ _ _, Lib.hid (by rw [List.drop_zero]), HOK, Lib.hid (by rw [List.drop_zero]; omega)⟩
      case round =>
        obtain ⟨k, vk, tk, hkg, rfl, hLk, hFk, HP, HO, HC⟩ := hrel
        cases gk with
        | zero =>
          obtain rfl : k = n.kids.length := by omega
          have HP2 : Hid (proj tk = proj ts ++ findRs ls p.data.toList 0 n.kids) := Lib.hid (by
            have h := HP.out
            rw [List.drop_length] at h
            simpa [findRs] using h)
          go_wp2_with fail
          go_meet
          exact ⟨vk, tk, hLk, hFk, HP2.out, HO.out⟩
        | succ gg =>
          have hkl : k < n.kids.length := by omega
          obtain ⟨r, hrn, hrx, hro, hra⟩ := HKK.out k hkl
          obtain ⟨e0, e1, e2, e3, e4, e5, e6, e7, e8⟩ := hrx.call hLk.below
          obtain ⟨hrr, hd1⟩ := HKR.out k hkl
          have hdrop := findRs_drop ls p.data.toList n.kids k hkl
          have hcd := countRs_drop n.kids k hkl
          rw [← hrn] at hrr hdrop hcd
          have hal := (rightRt_kid hrr).1
          have hms := alone_ms hal
          have hml := (alone_kids hal).2
          have hbn := (Below.refl wr.heap.size wr).alloc (Nat.le_refl _) (.cells (tCells r) 26)
          have hN := Blk.new wr 26 (tCells r)
          have hLn := hLk.call hbn
          have hFn := hFk.trans (FrT.of hbn hLk.below.size)
          have hgn : wr.heap.size ≠ fB := by have := hLk.found.lt; omega
          have hM := fun W (hW : Below w0.heap.size w0 W) => holds_any a r.ma c r.mc ls r.n.ms W (HLS.out.call hW) ((hro.own.call hW).1) (by omega)
          have hlt : leadsTo ls r.n = (holdsL ls r.n.ms).1 := rfl
          have hl0 : (holdsL ls r.n.ms).2 = 0 := holdsL_right hrl hms
          have hxd := hdrop
          obtain ⟨S, hS⟩ : ∃ S : ByteArray, S = ⟨(Lib.decDigits k).toArray⟩ := ⟨_, rfl⟩
          have hIT := fun W => HIT.out k (by omega) W
          rw [← hS] at hIT
          have hSz : S.size ≤ 2 := by
            rw [hS]
            show (Lib.decDigits k).toArray.size ≤ 2
            rw [List.size_toArray]
            exact decDigits_len k (by omega)
          have hpath : (p ++ ⟨#[46]⟩ ++ S).data.toList = p.data.toList ++ 46 :: Lib.decDigits k := by
            rw [hS]; simp
          have hpsz : (p ++ ⟨#[46]⟩ ++ S).size + 8 * (d - 1) ≤ 1000 := by
            have h1 : (p ++ ⟨#[46]⟩ ++ S).size = p.size + 1 + S.size := by
              rw [ByteArray.size_append, ByteArray.size_append]; rfl
            have := HPD.out
            omega
          have hfl := Rt.find_len ls (p.data.toList ++ 46 :: Lib.decDigits k) r.n
          have hp1 : ¬ 9223372036854775807 < p.size + 1 := by have := HPD.out; omega
          have hp2 : ¬ 9223372036854775807 < p.size + 1 + S.size := by have := HPD.out; omega
          have hcnt2 : tk.length + r.n.count ≤ 100000 := by have := HC.out; have := HCE.out; have := HCNT.out; omega
          have hRA := fun W (hW : LeadW w0 a c ls fB lB dB W vk tk) => hra (d - 1) W (p ++ ⟨#[46]⟩ ++ S) vk tk hrr hpsz hcnt2 HO.out hW
          rw [hpath] at hRA
          obtain ⟨Bq, hBq⟩ : ∃ B, holdsL ls r.n.ms = B := ⟨_, rfl⟩
          unfold HoldsPost at hM
          rw [hBq] at hM hlt hl0
          rw [hlt] at hxd
          have HM := Lib.hid hM
          have HRA := Lib.hid hRA
          have HXD := Lib.hid hxd
          have HCD := Lib.hid hcd
          have HFL := Lib.hid hfl
          have HITK := Lib.hid hIT
          have HFn := Lib.hid hFn
          have HFk := Lib.hid hFk
          clear hM hRA hxd hdrop hcd hfl hlt hal hms hml hro hrx hrr hra hrn hIT hpath hpsz hcnt2 hS hSz hBq hFn hFk hbn hd1
          obtain ⟨m, ma', mc', ba', bc', ua', uc', ka', kc'⟩ := r
          simp only [tCells] at *
          generalize m.on = O at *
          generalize Lib.decDigits k = DK at *
          obtain ⟨B, E⟩ := Bq
          simp only at hl0 HM HXD
          subst hl0
          go_upto_region 5 with fail
          generalize wr.alloc (.cells #[.string m.recv, .slice ma' m.ms.length mc', .slice ba' m.bys.length bc', .int .i64 m.wait, .int .i64 m.every, .int .i64 m.rep, .slice ua' m.mute.length uc', .bool O, .slice ka' m.kids.length kc'] 26) = wn at *
          generalize wr.heap.size = gn at *
          clear e0 e1 e2 e3 e4 e5 e6 e7 e8
          obtain ⟨n0, n1, n2, n3, n4, n5, n6, n7, n8⟩ := hN.cells9
          have l1 := hLn.labs.cell1
          cases B with
          | false =>
            rw [if_neg (by decide)] at HXD
            go_wp2_with (go_at_call 18; refine (HM.out _ hLn.below).mono ?_; rintro e w3 ⟨rfl, hb3⟩)
            go_roundg gg
            case measure => omega
            case rel => exact ⟨k + 1, vk, tk, by omega, by go_num, hLn.call hb3, HFn.out.trans (FrT.of hb3 hLn.below.size), Lib.hid (by rw [← HXD.out]; exact HP.out), HO, Lib.hid (by have := HC.out; have := HCD.out; omega)⟩
          | true =>
            rw [if_pos rfl] at HXD
            go_upto_region 7 with (go_at_call 18; refine (HM.out _ hLn.below).mono ?_; rintro e w3 ⟨rfl, hb3⟩)
            have hL3 := hLn.call hb3
            have hN3 := hN.call hb3
            have hF3 := HFn.out.trans (FrT.of (f := fB) hb3 hLn.below.size)
            have HKP := Lib.hid (fun W (hW : Below w3.heap.size w3 W) => (⟨(hL3.lead.call hW).cell1, (hN3.call hW).cells9⟩ : W.cell? ⟨dB, 0, none⟩ = some (leadF fB lB dB) ∧ W.cell? ⟨gn, 0, none⟩ = some (.string m.recv) ∧ W.cell? ⟨gn, 1, none⟩ = some (.slice ma' m.ms.length mc') ∧ W.cell? ⟨gn, 2, none⟩ = some (.slice ba' m.bys.length bc') ∧ W.cell? ⟨gn, 3, none⟩ = some (.int .i64 m.wait) ∧ W.cell? ⟨gn, 4, none⟩ = some (.int .i64 m.every) ∧ W.cell? ⟨gn, 5, none⟩ = some (.int .i64 m.rep) ∧ W.cell? ⟨gn, 6, none⟩ = some (.slice ua' m.mute.length uc') ∧ W.cell? ⟨gn, 7, none⟩ = some (.bool O) ∧ W.cell? ⟨gn, 8, none⟩ = some (.slice ka' m.kids.length kc')))
            clear n0 n1 n2 n3 n4 n5 n6 n7 n8 l1 hLn hN hLk
            go_region_held3 (fun w' => w'.cell? ⟨dB, 0, none⟩ = some (leadF fB lB dB) ∧ w'.cell? ⟨gn, 0, none⟩ = some (.string m.recv) ∧ w'.cell? ⟨gn, 1, none⟩ = some (.slice ma' m.ms.length mc') ∧ w'.cell? ⟨gn, 2, none⟩ = some (.slice ba' m.bys.length bc') ∧ w'.cell? ⟨gn, 3, none⟩ = some (.int .i64 m.wait) ∧ w'.cell? ⟨gn, 4, none⟩ = some (.int .i64 m.every) ∧ w'.cell? ⟨gn, 5, none⟩ = some (.int .i64 m.rep) ∧ w'.cell? ⟨gn, 6, none⟩ = some (.slice ua' m.mute.length uc') ∧ w'.cell? ⟨gn, 7, none⟩ = some (.bool O) ∧ w'.cell? ⟨gn, 8, none⟩ = some (.slice ka' m.kids.length kc'))
              (first | exact HKP.out _ (Below.refl _ _).drew | exact HK5.out)
              (first
              | (go_at_call 19; refine (HITK.out _).mono ?_; rintro e w4 ⟨rfl, rfl⟩)
              | (go_at_call 17; refine (HRA.out w3.drew (hL3.call (Below.refl _ _).drew)).mono ?_; rintro e w5 ⟨v5, t5, rfl, hp5, ho5, hL5, hF5⟩; have HK5 := Lib.hid (show _ ∧ _ from ⟨hL5.lead.cell1, (hF5.blk (k := gn) (hN3.call (Below.refl _ _).drew) hgn (by decide)).cells9⟩)))
            all_goals
              have hFt := (hF3.trans (FrT.of (Below.refl _ _).drew hL3.below.size)).trans hF5
              have hN5 := hF5.blk (k := gn) (hN3.call (Below.refl _ _).drew) hgn (by decide)
              obtain ⟨n0, n1, n2, n3, n4, n5, n6, n7, n8⟩ := hN5.cells9
              have hl5 : t5.length = tk.length + (m.find ls (p.data.toList ++ 46 :: DK)).length := by
                have := congrArg List.length hp5
                rw [List.length_append, proj_len, proj_len] at this
                exact this
              have HL5 := Lib.hid hl5
              have HP5 := Lib.hid hp5
              have HO5 := Lib.hid ho5
              have HFT := Lib.hid hFt
              clear hl5 hp5 ho5 hFt hF5 hF3 hN5 hN3 hL3 HKP
              cases O with
              | true =>
                rw [if_pos rfl] at HXD
                go_wp2_with fail
                go_roundg gg
                case measure => omega
                case rel => exact ⟨k + 1, v5, t5, by omega, by go_num, hL5, HFT.out, Lib.hid (by rw [HP5.out, List.append_assoc, ← HXD.out]; exact HP.out), HO5, Lib.hid (by have := HC.out; have := HCD.out; have := HL5.out; have := HFL.out; omega)⟩
              | false =>
                rw [if_neg (by decide), List.append_nil] at HXD
                go_wp2_with fail
                go_meet
                exact ⟨v5, t5, hL5, HFT.out, by rw [HP5.out, ← HXD.out]; exact HP.out, HO5.out⟩
  case rest =>
    obtain ⟨v2, ts2, hL2, hF2, hp2, ho2⟩ := hcut
    obtain ⟨wy, hwy⟩ : ∃ W, W = wc := ⟨_, rfl⟩
    subst hwy
    obtain ⟨a2, c2, rfl, ha2, hc2⟩ := hL2.own.slice
    have hBy := hF2.blk hB hgf (by decide)
    have hFt := HFR1.out.trans hF2
    have hll : ts2.length = ts.length + (findRs ls p.data.toList 0 n.kids).length := by
      have := congrArg List.length hp2
      rw [List.length_append, proj_len, proj_len] at this
      exact this
    have q1 := hL2.found.cell1
    unfold maxLen at hc2
    have HP2 := Lib.hid hp2
    have HO2 := Lib.hid ho2
    clear hp2 ho2 hF2 hB HK2 HKR hkc
    cases hnil : findRs ls p.data.toList 0 n.kids with
    | cons t0 tr =>
      rw [hnil] at hll HP2 HFE
      have hd : (((ts2.length : Nat) : Int) == ((ts.length : Nat) : Int)) = false := by rw [beq_eq_false_iff_ne]; simp only [List.length_cons] at hll; omega
      have HFT := Lib.hid hFt
      clear hnil hll hFt hBy
      go_wp2_with fail
      go_end0
      exact ⟨_, ts2, rfl, by rw [HFE.out]; exact HP2.out, HO2.out, hL2, HFT.out⟩
    | nil =>
      rw [hnil] at hll HP2 HFE
      have hll2 : ts2.length = ts.length := by simpa using hll
      have hd : (((ts2.length : Nat) : Int) == ((ts.length : Nat) : Int)) = true := by rw [hll2]; simp
      have hB8 := hBy.set9 (.slice none 0 0)
      have hfo := hL2.found.setO ⟨g, 8, none⟩ (.slice none 0 0) (by show fB ≠ g; omega)
      have hlo := hL2.labs.setO ⟨g, 8, none⟩ (.slice none 0 0) hlg
      have hdo := hL2.lead.setO ⟨g, 8, none⟩ (.slice none 0 0) hdg
      have hown := hL2.own.setF hBy (by decide) 8 (.slice none 0 0)
      have hFs := hFt.setNew HWG.out hgb 8 (.slice none 0 0)
      have hbw := hL2.below.setCell (p := ⟨g, 8, none⟩) hgb (.slice none 0 0)
      have hsz := hbw.size
      have b8 := hBy.cells9.2.2.2.2.2.2.2.2
      have f8 := hBy.frozen 8
      have HFS := Lib.hid hFs
      have HBW := Lib.hid hbw
      have HLL := Lib.hid hll2
      have hlen : ts2.length ≤ 1000000 := by have := HCNT.out; omega
      clear hnil hll hll2 hFt hL2 hFs hbw
      go_upto_region 11 with fail
      clear hBy
      go_upto_region 12 with fail
      generalize wy.setCell ⟨g, 8, none⟩ (.slice none 0 0) = wz at *
      obtain ⟨z0, z1, z2, z3, z4, z5, z6, z7, z8⟩ := hB8.cells9
      have q2 := hfo.cell1
      clear q1 b8 f8 hB8
      go_wp2_with (refine wpList_pushT wz (by rfl) (.tmp 48) (.tmp 52) 31 (by rfl) w0.heap.size i0 tgZ Tryd.underlying31 hi hz0 hz1 hz2 rfl _ ts2 (p, RtAt.bare ⟨n, ma, mc, ba, bc, ua, uc, ka, kc⟩) (by rfl) hown [.string p, .string n.recv, .slice ma n.ms.length mc, .slice ba n.bys.length bc, .int .i64 n.wait, .int .i64 n.every, .int .i64 n.rep, .slice ua n.mute.length uc, .bool n.on, .slice none 0 0] (tgV_bare p n ma ba ua ka mc bc uc kc).symm (by rfl) hlen hsz ?_; intro v3 w3 hown3 hg3; obtain ⟨a3, c3, hv3, _, _⟩ := hown3.slice; rw [List.length_append, List.length_singleton] at hv3; subst hv3; have hf3 := hfo.grown hg3 (hown.ne hfo (by decide)); have r1 := hf3.cell1; have r2 := hf3.frozen 0)
      have hl3 := (hlo.grown hg3 (hown.ne hlo (by decide))).setO ⟨fB, 0, none⟩ (.slice a3 (ts2.length + 1) c3) hlf
      have hd3 := (hdo.grown hg3 (hown.ne hdo (by decide))).setO ⟨fB, 0, none⟩ (.slice a3 (ts2.length + 1) c3) hdf
      have hb3 := (HBW.out.grown hg3 hsz (fun k hk => (World.ownsRow.lt hown k hk).1)).setCell (p := ⟨fB, 0, none⟩) hf (.slice a3 (ts2.length + 1) c3)
      have hFF := (HFS.out.trans (FrT.grown hown hg3 hsz)).set 0 (.slice a3 (ts2.length + 1) c3)
      go_end0
      refine ⟨_, ts2 ++ [(p, RtAt.bare ⟨n, ma, mc, ba, bc, ua, uc, ka, kc⟩)], rfl, ?_, ?_, ⟨hb3, hf3.set1 (.slice a3 (ts2.length + 1) c3), hown3.setF hf3 (by decide) 0 (.slice a3 (ts2.length + 1) c3), hl3, hd3⟩, hFF⟩
      · rw [proj_app, HP2.out, HFE.out, List.append_nil]; rfl
      · intro t ht
        rcases List.mem_append.1 ht with h | h
        · exact HO2.out t h
        · rw [List.mem_singleton] at h
          subst h
          exact HBO.out
end Go.Proofs.YtmhehojjlacfoaaDoor
/- The contract of routes.Find. -/
namespace Go.Proofs.YtmhehojjlacfoaaDoor
open Go.RowKit

theorem lead_any {w0 : World} {a : Option Addr} {c : Nat} {ls : List Lab} (hls : HasLabs w0 a c ls) (hrl : rightC ls = true) {fB lB dB : Nat} (hf : w0.heap.size ≤ fB) (hlf : lB ≠ fB) (hdf : dB ≠ fB) {q : RtAt} (h : q.ok w0) : LeadAll w0 a c ls fB lB dB q := by
  induction h with
  | flat q h0 h1 => exact lead_step hls hrl hf hlf hdf q h0.1 h0.2 (.inl h1)
  | row q b off R h0 h1 h2 h3 h4 h5 ih => exact lead_step hls hrl hf hlf hdf q h0.1 h0.2 (.inr ⟨b, off, h1, h2, fun i hi => ⟨R i, h3 i hi, h4 i hi, h5 i hi, ih i hi⟩⟩)
/-- the cells of a target lie there -/
def TgtLies (w : World) (b o : Nat) (t : TgtAt) : Prop := w.cell? ⟨b, o, none⟩ = some (.string t.1) ∧ t.2.lies w b (o + 1)
/-- the slice '.slice a ts.length c' reads as the targets ts -/
def HasTgts (w : World) (a : Option Addr) (c : Nat) (ts : List TgtAt) : Prop :=
  ts.length ≤ c ∧ c ≤ maxLen ∧ (∀ t ∈ ts, t.2.ok w) ∧ (ts = [] ∨ ∃ b off, a = some ⟨b, off, none⟩ ∧ b < w.heap.size ∧ ∀ i (h : i < ts.length), TgtLies w b (off + i * 10) ts[i])
theorem HasTgts.call {w w1 : World} {a : Option Addr} {c : Nat} {ts : List TgtAt} (h : HasTgts w a c ts) (hb : Below w.heap.size w w1) : HasTgts w1 a c ts := by
  obtain ⟨h1, h2, h3, h4⟩ := h
  refine ⟨h1, h2, fun t ht => (h3 t ht).call hb, h4.imp id ?_⟩
  rintro ⟨b, off, e, hlt, hc⟩
  exact ⟨b, off, e, Nat.lt_of_lt_of_le hlt hb.size, fun i hi => ⟨cellL hb (hc i hi).1, (hc i hi).2.call hb⟩⟩
theorem OwnT.tgts {w : World} {base : Nat} {v : Value} {ts : List TgtAt} (h : OwnT w base v ts) (hok : ∀ t ∈ ts, t.2.ok w) : ∃ a c, v = .slice a ts.length c ∧ HasTgts w a c ts := by
  rcases h.2 with ⟨rfl, h0⟩ | ⟨g, cap, cur, rfl, hb, hg, hn, hm, hcs, ht⟩
  · obtain rfl : ts = [] := List.eq_nil_of_length_eq_zero h0
    exact ⟨none, 0, rfl, Nat.le_refl _, by unfold maxLen; omega, hok, .inl rfl⟩
  · have hl := tgsV_len ts
    refine ⟨some ⟨g, 0, none⟩, cap, rfl, hn, hm, hok, .inr ⟨g, 0, rfl, lt_of_block hg, fun i hi => ?_⟩⟩
    have k := fun j (hj : j < 10) => (show w.cell? ⟨g, i * 10 + j, none⟩ = _ from h.cellAt (i * 10 + j) (by omega)).trans (tgsV_get ts i hi j hj)
    rw [Nat.zero_add]
    exact ⟨k 0 (by omega), k 1 (by omega), k 2 (by omega), k 3 (by omega), k 4 (by omega), k 5 (by omega), k 6 (by omega), k 7 (by omega), k 8 (by omega), k 9 (by omega)⟩
def findC (n : Rt) (ls : List Lab) : Bool := rteC n && rightC ls
/-- what Find answers -/
def FindP (n : Rt) (ls : List Lab) (w : World) (e : Ending) (w' : World) : Prop :=
  (findC n ls = false ∧ e = .returned (.tuple #[.slice none 0 0, .int .i64 1]) ∧ Below w.heap.size w w') ∨
  (findC n ls = true ∧ ∃ a' c' ts, e = .returned (.tuple #[.slice a' ts.length c', .int .i64 0]) ∧ proj ts = n.find ls [] ∧ HasTgts w' a' c' ts ∧ Below w.heap.size w w')
set_option maxHeartbeats 6400000 in
set_option maxRecDepth 100000 in
theorem find_any (q : RtAt) (a : Option Addr) (c : Nat) (ls : List Lab) (w : World) (h : q.ok w) (hL : HasLabs w a c ls) (hcn : q.n.count ≤ 100000) :
    Calls Tryd.prog 7 #[.agg (tCells q), .slice a ls.length c] w (FindP q.n ls w) := by
  have hb1 := (Below.refl w.heap.size w).alloc (Nat.le_refl _) (.cells (tCells q) 26)
  have hz1 : (w.alloc (.cells (tCells q) 26)).heap.size = w.heap.size + 1 := by simp
  have hb := hb1.alloc (by omega) (.cells #[.slice a ls.length c] 27)
  have hB := (Blk.new w 26 (tCells q)).alloc (.cells #[.slice a ls.length c] 27)
  have hLB := Blk.new (w.alloc (.cells (tCells q) 26)) 27 #[.slice a ls.length c]
  rw [hz1] at hLB
  have hz : ((w.alloc (.cells (tCells q) 26)).alloc (.cells #[.slice a ls.length c] 27)).heap.size = w.heap.size + 2 := by simp
  have hq1 := h.call hb
  have hr := rteRight_any q _ hq1
  have hlr := fun W (hW : Below w.heap.size w W) => right_any a c ls W (hL.call hW)
  have HL := Lib.hid hL
  have HO := Lib.hid h
  have HB := Lib.hid hb
  have HZ := Lib.hid hz
  have hfc : findC q.n ls = (rteC q.n && rightC ls) := rfl
  have HLR := Lib.hid hlr
  have HFC := Lib.hid hfc
  have HD : Hid (rteC q.n = true → rightRt 4 q.n = true) := Lib.hid (fun e => e)
  obtain ⟨B, hBB⟩ : ∃ B, rteC q.n = B := ⟨_, rfl⟩
  obtain ⟨D, hDD⟩ : ∃ D, rightC ls = D := ⟨_, rfl⟩
  rw [hBB] at hr HFC HD
  rw [hDD] at HFC
  have HDD := Lib.hid hDD
  simp only [hDD] at HLR
  have HR := Lib.hid hr
  clear hr hfc hlr hb1 hz1 hb hz h hL hq1 hBB hDD
  obtain ⟨n, ma, mc, ba, bc, ua, uc, ka, kc⟩ := q
  simp only [tCells] at *
  go_enter Tryd.func7, Tryd.ntmps7
  go_upto_region 1 with fail
  generalize (w.alloc (.cells #[.string n.recv, .slice ma n.ms.length mc, .slice ba n.bys.length bc, .int .i64 n.wait, .int .i64 n.every, .int .i64 n.rep, .slice ua n.mute.length uc, .bool n.on, .slice ka n.kids.length kc] 26)).alloc (.cells #[.slice a ls.length c] 27) = w1 at *
  obtain ⟨c0, c1, c2, c3, c4, c5, c6, c7, c8⟩ := hB.cells9
  cases B with
  | false =>
    go_wp2_with (go_at_call 8; refine HR.out.mono ?_; rintro e w2 ⟨rfl, hb2⟩)
    go_ret2
    exact .inl ⟨HFC.out, rfl, bthen HB.out hb2⟩
  | true =>
    cases D with
    | false =>
      go_wp2_with (first
        | (go_at_call 8; refine HR.out.mono ?_; rintro e w2 ⟨rfl, hb2⟩; have k1 := (hLB.call hb2).cell1)
        | (go_at_call 16; refine (HLR.out _ (bthen HB.out hb2)).mono ?_; rintro e w3 ⟨rfl, hb3⟩))
      go_ret2
      exact .inl ⟨HFC.out, rfl, bthen HB.out (bthen hb2 hb3)⟩
    | true =>
      go_upto_region 3 with (first
        | (go_at_call 8; refine HR.out.mono ?_; rintro e w2 ⟨rfl, hb2⟩; have k1 := (hLB.call hb2).cell1)
        | (go_at_call 16; refine (HLR.out _ (bthen HB.out hb2)).mono ?_; rintro e w3 ⟨rfl, hb3⟩))
      have hb4 := bthen HB.out (bthen hb2 hb3)
      have hB3 := (hB.call hb2).call hb3
      have hLB3 := (hLB.call hb2).call hb3
      have hz3 : w.heap.size + 2 ≤ w3.heap.size := by have := HZ.out; have := hb2.size; have := hb3.size; omega
      clear hB hLB hb2 hb3 c0 c1 c2 c3 c4 c5 c6 c7 c8 k1 HR HLR
      have hzf : (w3.alloc (.cells #[.slice none 0 0] 31)).heap.size = w3.heap.size + 1 := by simp
      have hF := (Blk.new w3 31 #[.slice none 0 0]).alloc (.cells #[leadF w3.heap.size (w.heap.size + 1) (w3.heap.size + 1)] 46)
      have hX := Blk.new (w3.alloc (.cells #[.slice none 0 0] 31)) 46 #[leadF w3.heap.size (w.heap.size + 1) (w3.heap.size + 1)]
      rw [hzf] at hX
      have hbw := (hb4.alloc hb4.size (.cells #[.slice none 0 0] 31)).alloc (by omega) (.cells #[leadF w3.heap.size (w.heap.size + 1) (w3.heap.size + 1)] 46)
      have hB5 := (hB3.alloc (.cells #[.slice none 0 0] 31)).alloc (.cells #[leadF w3.heap.size (w.heap.size + 1) (w3.heap.size + 1)] 46)
      have hL5 := (hLB3.alloc (.cells #[.slice none 0 0] 31)).alloc (.cells #[leadF w3.heap.size (w.heap.size + 1) (w3.heap.size + 1)] 46)
      have hLW : LeadW w a c ls w3.heap.size (w.heap.size + 1) (w3.heap.size + 1) _ (.slice none 0 0) [] := ⟨hbw, hF, OwnT.nil _ _, hL5, hX⟩
      have hcall := lead_any HL.out HDD.out (fB := w3.heap.size) (lB := w.heap.size + 1) (dB := w3.heap.size + 1) (by omega) (by omega) (by omega) HO.out 4 _ ⟨#[]⟩ _ [] (HD.out (by first | trivial | rfl)) (by show 0 + 8 * 4 ≤ 1000; omega) (by simp only [List.length_nil]; omega) (fun t ht => by cases ht) hLW
      obtain ⟨c0, c1, c2, c3, c4, c5, c6, c7, c8⟩ := hB5.cells9
      have x1 := hX.cell1
      have HCL := Lib.hid hcall
      clear hF hX hbw hB5 hL5 hLW hcall hB3 hLB3 hzf
      simp only [leadF, tCells] at *
      go_upto_region 6 with fail
      generalize (w3.alloc (.cells #[.slice none 0 0] 31)).alloc (.cells #[.func (.func 17) #[] #[.pointer (some ⟨w3.heap.size, 0, none⟩), .pointer (some ⟨w.heap.size + 1, 0, none⟩), .pointer (some ⟨w3.heap.size + 1, 0, none⟩)]] 46) = w5 at *
      go_wp2_with (go_at_call 17; refine HCL.out.mono ?_; rintro e w6 ⟨v6, t6, rfl, hp6, ho6, hL6, hF6⟩; obtain ⟨a6, c6', rfl, _, _⟩ := hL6.own.slice; have y1 := hL6.found.cell1)
      go_ret2
      obtain ⟨a7, c7', e7, ht7⟩ := hL6.own.tgts (fun t ht => (ho6 t ht).call hL6.below)
      simp only [Value.slice.injEq] at e7
      obtain ⟨rfl, _, rfl⟩ := e7
      exact .inr ⟨HFC.out, _, _, t6, rfl, by rw [hp6]; simp [proj], ht7, hL6.below⟩
end Go.Proofs.YtmhehojjlacfoaaDoor
