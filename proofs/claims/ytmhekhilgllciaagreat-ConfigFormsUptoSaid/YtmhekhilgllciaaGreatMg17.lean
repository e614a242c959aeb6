/- The contracts of the document's own Same, Get, Keep, and of label.Keep. -/
import Derived.Test.YtmhekhilgllciaaGreatMg14
import Derived.Test.YtmhekhilgllciaaGreatMg11
import Derived.Test.YtmhekhilgllciaaGreatRulB
import Derived.Test.YtmhekhilgllciaaGreatMg7
import Derived.Test.YtmhekhilgllciaaGreatMg4
import Derived.Test.YtmhekhilgllciaaGreatMg5
import Derived.Deep.RegionHeld3
import Derived.Deep.CutBlock
namespace Go.Proofs.YtmhekhilgllciaaGreat
open Go.RowKit
open Go.WideShapes (bytes_inj)

set_option maxHeartbeats 1600000 in
set_option maxRecDepth 100000 in
theorem rSame_some (b off c b' off' c' : Nat) (ls ms : List Lab) (w : World) (hlc : ls.length ≤ c) (hcm : c ≤ maxLen) (hlc' : ms.length ≤ c') (_hcm' : c' ≤ maxLen) (_hb : b < w.heap.size) (_hb' : b' < w.heap.size)
    (hcell : ∀ i (h : i < ls.length), w.cell? ⟨b, off + i * 2, none⟩ = some (.string ls[i].1) ∧ w.cell? ⟨b, off + i * 2 + 1, none⟩ = some (.string ls[i].2))
    (hcell' : ∀ i (h : i < ms.length), w.cell? ⟨b', off' + i * 2, none⟩ = some (.string ms[i].1) ∧ w.cell? ⟨b', off' + i * 2 + 1, none⟩ = some (.string ms[i].2)) (hl : ls.length = ms.length) :
    Calls Tryz.prog 99 #[.slice (some ⟨b, off, none⟩) ls.length c, .slice (some ⟨b', off', none⟩) ms.length c'] w (BoolB (decide (ls = ms)) w) := by
  unfold maxLen at hcm _hcm'
  have HC := Lib.hid hcell
  have HC' := Lib.hid hcell'
  have hlen : ((ls.length : Int) != (ms.length : Int)) = false := by rw [hl]; simp
  have hlb : ms.length ≤ ls.length := by omega
  have hlb' : ls.length ≤ ms.length := by omega
  have HL := Lib.hid hl
  clear hcell hcell' hl
  go_enter Tryz.func99, Tryz.ntmps99
  go_wp2
  go_loopw [13] (fun i wr => ∃ k : Nat, k ≤ ls.length ∧ i = .int .i64 k ∧ ls.take k = ms.take k ∧ Below w.heap.size w wr) (fun i _ => ls.length - (intOf i).toNat)
  case atStart => exact ⟨0, Nat.zero_le _, rfl, rfl, Below.refl _ _⟩
  case round =>
    obtain ⟨k, hk, rfl, he, hbl⟩ := hrel
    have HE := Lib.hid he
    clear he
    by_cases hkl : k < ls.length
    · have hkm : k < ms.length := by omega
      have hc1 := cellLater hbl (HC.out k hkl).1
      have hc2 := cellLater hbl (HC.out k hkl).2
      have hd1 := cellLater hbl (HC'.out k hkm).1
      have hd2 := cellLater hbl (HC'.out k hkm).2
      have hne := fun W => run_neq_lab ls[k] (ms[k]'hkm) W
      by_cases hq : ls[k] = ms[k]'hkm
      · have htk : ls.take (k + 1) = ms.take (k + 1) := by
          rw [List.take_succ_eq_append_getElem hkl, List.take_succ_eq_append_getElem hkm, HE.out, hq]
        have HT := Lib.hid htk
        rw [decide_eq_true hq] at hne
        clear htk hq
        go_wp2_with fail
        go_quiet (fail)
        go_wp2
        go_roundw
        case rel => exact ⟨k + 1, by omega, by go_num, HT.out, below_drewN hbl _⟩
        case measure => simp [intOf]; omega
      · have hf : decide (ls = ms) = false := by
          rw [decide_eq_false_iff_not]
          intro e
          subst e
          exact hq rfl
        have HF := Lib.hid hf
        rw [decide_eq_false hq] at hne
        clear hq hf
        go_wp2_with fail
        go_quiet (fail)
        go_wp2
        go_ret
        rw [HF.out]
        exact ⟨rfl, below_drewN hbl _⟩
    · have ht : decide (ls = ms) = true := by
        have := HE.out
        rw [List.take_of_length_le (by omega), List.take_of_length_le (by omega)] at this
        rw [decide_eq_true_iff]; exact this
      go_wp2
      go_ret
      rw [ht]
      exact ⟨rfl, hbl⟩

theorem rSame_any (a a' : Option Addr) (c c' : Nat) (ls ms : List Lab) (w : World) (h : HasLabs w a c ls) (h' : HasLabs w a' c' ms) :
    Calls Tryz.prog 99 #[.slice a ls.length c, .slice a' ms.length c'] w (BoolB (decide (ls = ms)) w) := by
  obtain ⟨h1, h2, h3, h4⟩ := h
  obtain ⟨g1, g2, g3, g4⟩ := h'
  unfold maxLen at h2 g2
  by_cases hl : ls.length = ms.length
  · rcases h4 with rfl | ⟨b, off, rfl, hb, hc⟩
    · obtain rfl : ms = [] := List.eq_nil_of_length_eq_zero hl.symm
      go_enter Tryz.func99, Tryz.ntmps99
      go_wp2
      refine wp_loop_rounds 1 ?_
      rw [rounds_succ]
      go_wp2
      go_ret
      exact ⟨rfl, Below.refl _ _⟩
    · rcases g4 with rfl | ⟨b', off', rfl, hb', hc'⟩
      · obtain rfl : ls = [] := List.eq_nil_of_length_eq_zero hl
        go_enter Tryz.func99, Tryz.ntmps99
        go_wp2
        refine wp_loop_rounds 1 ?_
        rw [rounds_succ]
        go_wp2
        go_ret
        exact ⟨rfl, Below.refl _ _⟩
      · exact rSame_some b off c b' off' c' ls ms w h1 (by unfold maxLen; omega) g1 (by unfold maxLen; omega) hb hb' hc hc' hl
  · have hlen : ((ls.length : Int) != (ms.length : Int)) = true := by rw [bne_iff_ne]; omega
    have hf : decide (ls = ms) = false := by
      rw [decide_eq_false_iff_not]
      intro e
      exact hl (by rw [e])
    rw [hf]
    clear hl hf h3 h4 g3 g4
    go_enter Tryz.func99, Tryz.ntmps99
    go_wp2
    go_ret
    exact ⟨rfl, Below.refl _ _⟩
end Go.Proofs.YtmhekhilgllciaaGreat
/- The contracts of the document's own Like of layer 8. -/
namespace Go.Proofs.YtmhekhilgllciaaGreat
open Go.RowKit

set_option maxHeartbeats 6400000 in
set_option maxRecDepth 100000 in
theorem rrLike_any (r r' : Rul) (a a' : Option Addr) (c c' : Nat) (w : World) (h : RulAt w r a c) (h' : RulAt w r' a' c') : Calls Tryz.prog 45 #[.agg (rCells r a c), .agg (rCells r' a' c')] w (BoolB (likeR r r') w) := by
  obtain ⟨n, m, k, l, f, p, t, ls⟩ := r
  obtain ⟨n2, m2, k2, l2, f2, p2, t2, ms⟩ := r'
  obtain ⟨hW, _, _⟩ := h
  obtain ⟨hW', _, _⟩ := h'
  simp only [rCells, likeR] at *
  have HE := Lib.hid (fun W (hb : Below w.heap.size w W) => rSame_any a a' c c' ls ms W (hW.call hb) (hW'.call hb))
  have hb1 := (Blk.new w 45 #[.string n, .string m, .int .i64 k, .int .i64 l, .int .i64 f, .int .i64 p, .int .i64 t, .slice a ls.length c]).alloc (.cells #[.string n2, .string m2, .int .i64 k2, .int .i64 l2, .int .i64 f2, .int .i64 p2, .int .i64 t2, .slice a' ms.length c'] 45)
  have hb3 := Blk.new (w.alloc (.cells #[.string n, .string m, .int .i64 k, .int .i64 l, .int .i64 f, .int .i64 p, .int .i64 t, .slice a ls.length c] 45)) 45 #[.string n2, .string m2, .int .i64 k2, .int .i64 l2, .int .i64 f2, .int .i64 p2, .int .i64 t2, .slice a' ms.length c']
  have hbl := ((Below.refl _ w).alloc (Nat.le_refl _) (.cells #[.string n, .string m, .int .i64 k, .int .i64 l, .int .i64 f, .int .i64 p, .int .i64 t, .slice a ls.length c] 45)).alloc (by simp) (.cells #[.string n2, .string m2, .int .i64 k2, .int .i64 l2, .int .i64 f2, .int .i64 p2, .int .i64 t2, .slice a' ms.length c'] 45)
  have e1 : (w.alloc (.cells #[.string n, .string m, .int .i64 k, .int .i64 l, .int .i64 f, .int .i64 p, .int .i64 t, .slice a ls.length c] 45)).heap.size = w.heap.size + 1 := by simp
  rw [e1] at hb3
  obtain ⟨x0, x1, x2, x3, x4, x5, x6, x7⟩ := hb1.cells8
  obtain ⟨y0, y1, y2, y3, y4, y5, y6, y7⟩ := hb3.cells8
  have HB := Lib.hid hbl
  obtain ⟨D, hD⟩ : ∃ D, decide (ls = ms) = D := ⟨_, rfl⟩
  rw [hD]
  rw [hD] at HE
  clear hW hW' hb1 hb3 hbl e1 hD
  by_cases h0 : n = n2
  · have q0 : (n.toList == n2.toList) = true := by rw [name_eqR]; exact decide_eq_true h0
    rw [decide_eq_true h0, Bool.true_and]
    clear h0
    by_cases h1 : m = m2
    · have q1 : (m.toList == m2.toList) = true := by rw [name_eqR]; exact decide_eq_true h1
      rw [decide_eq_true h1, Bool.true_and]
      clear h1
      by_cases h2 : k = k2
      · have q2 : (k == k2) = true := beq_iff_eq.2 h2
        rw [decide_eq_true h2, Bool.true_and]
        clear h2
        by_cases h3 : l = l2
        · have q3 : (l == l2) = true := beq_iff_eq.2 h3
          rw [decide_eq_true h3, Bool.true_and]
          clear h3
          by_cases h4 : f = f2
          · have q4 : (f == f2) = true := beq_iff_eq.2 h4
            rw [decide_eq_true h4, Bool.true_and]
            clear h4
            by_cases h5 : p = p2
            · have q5 : (p == p2) = true := beq_iff_eq.2 h5
              rw [decide_eq_true h5, Bool.true_and]
              clear h5
              by_cases h6 : t = t2
              · have q6 : (t == t2) = true := beq_iff_eq.2 h6
                rw [decide_eq_true h6, Bool.true_and]
                clear h6
                go_enter Tryz.func45, Tryz.ntmps45
                go_wp2_with (go_at_call 99; refine (HE.out _ HB.out).mono ?_; rintro e w2 ⟨rfl, hb2⟩)
                go_ret
                exact ⟨rfl, bthen HB.out hb2⟩
              · have q6 : (t == t2) = false := beq_eq_false_iff_ne.2 h6
                rw [decide_eq_false h6, Bool.false_and]
                clear h6
                go_enter Tryz.func45, Tryz.ntmps45
                go_wp2_with fail
                go_ret
                exact ⟨rfl, HB.out⟩
            · have q5 : (p == p2) = false := beq_eq_false_iff_ne.2 h5
              rw [decide_eq_false h5, Bool.false_and]
              clear h5
              go_enter Tryz.func45, Tryz.ntmps45
              go_wp2_with fail
              go_ret
              exact ⟨rfl, HB.out⟩
          · have q4 : (f == f2) = false := beq_eq_false_iff_ne.2 h4
            rw [decide_eq_false h4, Bool.false_and]
            clear h4
            go_enter Tryz.func45, Tryz.ntmps45
            go_wp2_with fail
            go_ret
            exact ⟨rfl, HB.out⟩
        · have q3 : (l == l2) = false := beq_eq_false_iff_ne.2 h3
          rw [decide_eq_false h3, Bool.false_and]
          clear h3
          go_enter Tryz.func45, Tryz.ntmps45
          go_wp2_with fail
          go_ret
          exact ⟨rfl, HB.out⟩
      · have q2 : (k == k2) = false := beq_eq_false_iff_ne.2 h2
        rw [decide_eq_false h2, Bool.false_and]
        clear h2
        go_enter Tryz.func45, Tryz.ntmps45
        go_wp2_with fail
        go_ret
        exact ⟨rfl, HB.out⟩
    · have q1 : (m.toList == m2.toList) = false := by rw [name_eqR]; exact decide_eq_false h1
      rw [decide_eq_false h1, Bool.false_and]
      clear h1
      go_enter Tryz.func45, Tryz.ntmps45
      go_wp2_with fail
      go_ret
      exact ⟨rfl, HB.out⟩
  · have q0 : (n.toList == n2.toList) = false := by rw [name_eqR]; exact decide_eq_false h0
    rw [decide_eq_false h0, Bool.false_and]
    clear h0
    go_enter Tryz.func45, Tryz.ntmps45
    go_wp2_with fail
    go_ret
    exact ⟨rfl, HB.out⟩
end Go.Proofs.YtmhekhilgllciaaGreat
/- The contract of the document's own Like of layer 9, of any two routes. -/
namespace Go.Proofs.YtmhekhilgllciaaGreat
open Go.RowKit

def Lk9 (w0 : World) (q : RtAt) : Prop := ∀ (p : RtAt) (w : World), p.ok w → Below w0.heap.size w0 w → Calls Tryz.prog 47 #[.agg (tCells q), .agg (tCells p)] w (BoolB (eqB (q.n = p.n)) w)
theorem bne_no {α : Type} [BEq α] [LawfulBEq α] {a b : α} (h : (a != b) = false) : a = b := by simpa using h
set_option maxHeartbeats 12800000 in
set_option maxRecDepth 100000 in
theorem lk9_step {w0 : World} (q : RtAt) (hqo : q.own w0) (hkc : q.n.kids.length ≤ q.kc ∧ q.kc ≤ maxLen) (hpl : q.n.kids = [] ∨ ∃ b off, q.ka = some ⟨b, off, none⟩ ∧ b < w0.heap.size ∧ ∀ i (h : i < q.n.kids.length), ∃ r : RtAt, r.n = q.n.kids[i] ∧ r.lies w0 b (off + i * 9) ∧ r.ok w0 ∧ Lk9 w0 r) : Lk9 w0 q := by
  intro p w hp hw
  have hq := hqo.call hw
  have hpo := hp.own
  have hpp := hp.place
  have hkp := hp.head.2
  have hb := balR (o := .cells (tCells q) 27) (Below.refl w.heap.size w)
  have hb2 := balR (o := .cells (tCells p) 27) hb
  have hB := (Blk.new w 27 (tCells q)).alloc (.cells (tCells p) 27)
  have hP := nbR w (.cells (tCells q) 27) (tCells p) 27
  have hsb := fun W (hW : Below w.heap.size w W) => same_any q.ba p.ba q.bc p.bc q.n.bys p.n.bys W (hq.2.1.call hW) (hpo.2.1.call hW)
  have hsu := fun W (hW : Below w.heap.size w W) => same_any q.ua p.ua q.uc p.uc q.n.mute p.n.mute W (hq.2.2.1.call hW) (hpo.2.2.1.call hW)
  obtain ⟨R, hR⟩ : ∃ R, eqB (q.n = p.n) = R := ⟨_, rfl⟩
  rw [hR]
  have gR : ∀ P : Prop, (q.n = p.n → P) → ¬ P → R = false := fun P h hn => by rw [← hR]; exact eqB_no (fun e => hn (h e))
  obtain ⟨C1, hC1⟩ : ∃ B, decide (q.n.bys = p.n.bys) = B := ⟨_, rfl⟩
  obtain ⟨C2, hC2⟩ : ∃ B, decide (q.n.mute = p.n.mute) = B := ⟨_, rfl⟩
  rw [hC1] at hsb
  rw [hC2] at hsu
  have gF : q.n.recv = p.n.recv → q.n.wait = p.n.wait → q.n.every = p.n.every → q.n.rep = p.n.rep → q.n.on = p.n.on → q.n.ms = p.n.ms → q.n.kids = p.n.kids → R = (C1 && C2) := fun e1 e2 e3 e4 e5 e6 e7 => by
    rw [← hR, ← hC1, ← hC2, ← eqB_dec, ← eqB_dec, ← eqB_and]
    congr 1
    refine propext ((alone_ext _ _).trans ⟨fun h => ⟨h.1.2.2.1, h.1.2.2.2.2.2.2.1⟩, fun h => ⟨⟨e1, e6, h.1, e2, e3, e4, h.2, e5⟩, e7⟩⟩)
  obtain ⟨B1, hB1⟩ : ∃ B, decide (q.n.recv = p.n.recv) = B := ⟨_, rfl⟩
  have f1 : (q.n.recv.toList == p.n.recv.toList) = B1 := by rw [strEq, hB1]
  obtain ⟨D2, e2⟩ : ∃ B, (q.n.wait != p.n.wait) = B := ⟨_, rfl⟩
  obtain ⟨D3, e3⟩ : ∃ B, (q.n.every != p.n.every) = B := ⟨_, rfl⟩
  obtain ⟨D4, e4⟩ : ∃ B, (q.n.rep != p.n.rep) = B := ⟨_, rfl⟩
  have G1 := Lib.hid (show B1 = false → R = false from fun e => gR _ (fun h => by rw [h]) (of_decide_eq_false (hB1.trans e)))
  have G2 := Lib.hid (show D2 = true → R = false from fun e => gR _ (fun h => by rw [h]) (bne_iff_ne.1 (e2.trans e)))
  have G3 := Lib.hid (show D3 = true → R = false from fun e => gR _ (fun h => by rw [h]) (bne_iff_ne.1 (e3.trans e)))
  have G4 := Lib.hid (show D4 = true → R = false from fun e => gR _ (fun h => by rw [h]) (bne_iff_ne.1 (e4.trans e)))
  have G5 := Lib.hid (show q.n.on ≠ p.n.on → R = false from fun e => gR _ (fun h => by rw [h]) e)
  have G6 := Lib.hid (show q.n.ms ≠ p.n.ms → R = false from fun e => gR _ (fun h => by rw [h]) e)
  have G7 := Lib.hid (show q.n.kids ≠ p.n.kids → R = false from fun e => gR _ (fun h => by rw [h]) e)
  have GF := Lib.hid (show B1 = true → D2 = false → D3 = false → D4 = false → q.n.on = p.n.on → q.n.ms = p.n.ms → q.n.kids = p.n.kids → R = (C1 && C2) from fun a1 a2 a3 a4 a5 a6 a7 => gF (of_decide_eq_true (hB1.trans a1)) (bne_no (e2.trans a2)) (bne_no (e3.trans a3)) (bne_no (e4.trans a4)) a5 a6 a7)
  have HSB := Lib.hid hsb
  have HSU := Lib.hid hsu
  have HB := Lib.hid hb2
  have HM1 := Lib.hid hq.1
  have HM2 := Lib.hid hpo.1
  have hmc := hq.1.2.1
  have hmc2 := hpo.1.2.1
  have hml := hq.1.1
  have hml2 := hpo.1.1
  have HPL := Lib.hid hpl
  have HPP := Lib.hid hpp
  have HW := Lib.hid hw
  obtain ⟨hk1, hk2⟩ := hkc
  obtain ⟨hk3, hk4⟩ := hkp
  unfold maxLen at hmc hmc2 hk2 hk4
  clear hsb hsu hb hb2 hR gR gF hC1 hC2 hB1 hq hpo hqo hp hw hpl hpp
  obtain ⟨n, ma1, mc1, ba1, bc1, ua1, uc1, ka1, kc1⟩ := q
  obtain ⟨m, ma2, mc2, ba2, bc2, ua2, uc2, ka2, kc2⟩ := p
  simp only [tCells] at *
  go_enter Tryz.func47, Tryz.ntmps47
  go_upto_region 1 with fail
  obtain ⟨g, hg⟩ : ∃ g, w.heap.size = g := ⟨_, rfl⟩
  generalize (w.alloc (.cells #[.string n.recv, .slice ma1 n.ms.length mc1, .slice ba1 n.bys.length bc1, .int .i64 n.wait, .int .i64 n.every, .int .i64 n.rep, .slice ua1 n.mute.length uc1, .bool n.on, .slice ka1 n.kids.length kc1] 27)).alloc (.cells #[.string m.recv, .slice ma2 m.ms.length mc2, .slice ba2 m.bys.length bc2, .int .i64 m.wait, .int .i64 m.every, .int .i64 m.rep, .slice ua2 m.mute.length uc2, .bool m.on, .slice ka2 m.kids.length kc2] 27) = wx at *
  rw [hg] at hB hP ⊢
  clear hg
  have HAC := Lib.hid (fun W (hW : Below wx.heap.size wx W) => (hB.call hW).cells9)
  have HDC := Lib.hid (fun W (hW : Below wx.heap.size wx W) => (hP.call hW).cells9)
  obtain ⟨c0, c1, c2, c3, c4, c5, c6, c7, c8⟩ := hB.cells9
  obtain ⟨d0, d1, d2, d3, d4, d5, d6, d7, d8⟩ := hP.cells9
  clear hB hP
  cases B1
  case false =>
    obtain rfl := G1.out rfl
    clear G1 G2 G3 G4 G5 GF G6 G7
    go_wp2_with fail
    go_ret
    exact ⟨rfl, HB.out⟩
  cases D2
  case true =>
    obtain rfl := G2.out rfl
    clear G1 G2 G3 G4 G5 GF G6 G7
    go_wp2_with fail
    go_ret
    exact ⟨rfl, HB.out⟩
  cases D3
  case true =>
    obtain rfl := G3.out rfl
    clear G1 G2 G3 G4 G5 GF G6 G7
    go_wp2_with fail
    go_ret
    exact ⟨rfl, HB.out⟩
  cases D4
  case true =>
    obtain rfl := G4.out rfl
    clear G1 G2 G3 G4 G5 GF G6 G7
    go_wp2_with fail
    go_ret
    exact ⟨rfl, HB.out⟩
  by_cases hO : n.on = m.on
  case neg =>
    obtain rfl := G5.out hO
    have hO2 : (n.on = true ∧ m.on = false) ∨ (n.on = false ∧ m.on = true) := by
      cases h1 : n.on <;> cases h2 : m.on <;> first | (exact absurd (h1.trans h2.symm) hO) | simp
    clear G1 G2 G3 G4 G5 GF G6 G7 hO HAC HDC
    generalize n.on = O1 at *
    generalize m.on = O2 at *
    rcases hO2 with ⟨rfl, rfl⟩ | ⟨rfl, rfl⟩
    all_goals
      go_wp2_with fail
      go_ret
      exact ⟨rfl, HB.out⟩
  have GF2 := Lib.hid (GF.out rfl rfl rfl rfl hO)
  obtain ⟨O, hO1⟩ : ∃ O, n.on = O := ⟨_, rfl⟩
  have hO2 : m.on = O := by rw [← hO, hO1]
  rw [hO1] at c7 HAC
  rw [hO2] at d7 HDC
  clear GF G1 G2 G3 G4 G5 hO hO1 hO2
  by_cases hl : n.ms.length = m.ms.length
  case neg =>
    have f6 := natNeR hl
    obtain rfl : R = false := G6.out (fun e => hl (by rw [e]))
    clear hl
    go_wp2_with fail
    go_ret
    exact ⟨rfl, HB.out⟩
  by_cases hl2 : n.kids.length = m.kids.length
  case neg =>
    have f6 := natEqR hl
    have f7 := natNeR hl2
    obtain rfl : R = false := G7.out (fun e => hl2 (by rw [e]))
    clear hl2 hl
    go_wp2_with fail
    go_ret
    exact ⟨rfl, HB.out⟩
  have f6 := natEqR hl
  have f7 := natEqR hl2
  obtain ⟨I, hI, hgood, hend⟩ := rowsP n.ms m.ms hl
  obtain ⟨J, hJ, hgood2, hend2⟩ := rowsP n.kids m.kids hl2
  have HGI := Lib.hid hgood
  have HEI := Lib.hid hend
  have HGJ := Lib.hid hgood2
  have HEJ := Lib.hid hend2
  have HIL := Lib.hid hl
  have HJL := Lib.hid hl2
  clear hgood hend hl hgood2 hend2 hl2
  go_wp2_with fail
  clear c0 c1 c2 c3 c4 c5 c6 c7 c8 d0 d1 d2 d3 d4 d5 d6 d7 d8 f6 f7 f1 e2 e3 e4
  go_loopg [61, 5] n.ms.length (fun gg iv _ wr => ∃ k : Nat, k + gg = n.ms.length ∧ k ≤ I ∧ iv = .int .i64 (k : Int) ∧ Below wx.heap.size wx wr)
  case atStart => exact ⟨0, by omega, Nat.zero_le _, rfl, Below.refl _ _⟩
  case round =>
    obtain ⟨k, hkg, hkI, rfl, hbr⟩ := hrel
    cases gk with
    | succ gg =>
      have hkl : k < n.ms.length := by omega
      have hkm : k < m.ms.length := by have := HIL.out; omega
      obtain ⟨b1, o1, rfl, x1, y1, ⟨p0, p1, p2⟩, p3, p4, p5⟩ : ∃ b off, ma1 = some ⟨b, off, none⟩ ∧ ∃ x y,
          (w.cell? ⟨b, off + k * 3, none⟩ = some (.string n.ms[k].name) ∧ w.cell? ⟨b, off + k * 3 + 1, none⟩ = some (.int .i64 n.ms[k].how) ∧ w.cell? ⟨b, off + k * 3 + 2, none⟩ = some (.slice x n.ms[k].words.length y)) ∧
          HasStrs w x y n.ms[k].words ∧ n.ms[k].name.size ≤ maxLen ∧ (Lit.int .i64 n.ms[k].how).wf = true := by
        rcases HM1.out.2.2 with h | ⟨b, off, h1, _, h3⟩
        · rw [h] at hkl; simp at hkl
        · exact ⟨b, off, h1, h3 k hkl⟩
      obtain ⟨b2, o2, rfl, x2, y2, ⟨q0, q1, q2⟩, q3, q4, q5⟩ : ∃ b off, ma2 = some ⟨b, off, none⟩ ∧ ∃ x y,
          (w.cell? ⟨b, off + k * 3, none⟩ = some (.string m.ms[k].name) ∧ w.cell? ⟨b, off + k * 3 + 1, none⟩ = some (.int .i64 m.ms[k].how) ∧ w.cell? ⟨b, off + k * 3 + 2, none⟩ = some (.slice x m.ms[k].words.length y)) ∧
          HasStrs w x y m.ms[k].words ∧ m.ms[k].name.size ≤ maxLen ∧ (Lit.int .i64 m.ms[k].how).wf = true := by
        rcases HM2.out.2.2 with h | ⟨b, off, h1, _, h3⟩
        · rw [h] at hkm; simp at hkm
        · exact ⟨b, off, h1, h3 k hkm⟩
      have hrr : k = I → n.ms[k] ≠ m.ms[k] ∧ R = false := fun e => by
        rcases HEI.out with ⟨h1, _⟩ | ⟨_, _, h3, h4⟩
        · omega
        · subst e
          exact ⟨h3, G6.out h4⟩
      have hgg : k ≠ I → n.ms[k] = m.ms[k] := fun e => HGI.out k hkl hkm (by omega)
      generalize n.ms[k] = x at *
      generalize m.ms[k] = y at *
      have hbw := bthen HB.out hbr
      have hm1 : HasMat wr (.agg (matCells x1 y1 x)) x := ⟨x1, y1, rfl, p3.call hbw, p4, p5⟩
      have hm2 : HasMat wr (.agg (matCells x2 y2 y)) y := ⟨x2, y2, rfl, q3.call hbw, q4, q5⟩
      have hlk := rLike_any _ _ x y wr.drew (hm1.call (Below.refl _ _).drew) (hm2.call (Below.refl _ _).drew)
      rw [likeM_eq] at hlk
      obtain ⟨X, hX⟩ : ∃ X, eqB (x = y) = X := ⟨_, rfl⟩
      rw [hX] at hlk
      have HKP := Lib.hid (fun W (hW : Below wr.heap.size wr W) => (⟨(HAC.out W (bthen hbr hW)).2.1, (HDC.out W (bthen hbr hW)).2.1, cellL (bthen hbw hW) p0, cellL (bthen hbw hW) p1, cellL (bthen hbw hW) p2, cellL (bthen hbw hW) q0, cellL (bthen hbw hW) q1, cellL (bthen hbw hW) q2⟩ : W.cell? ⟨g, 1, none⟩ = some (.slice (some ⟨b1, o1, none⟩) n.ms.length mc1) ∧ W.cell? ⟨g + 1, 1, none⟩ = some (.slice (some ⟨b2, o2, none⟩) m.ms.length mc2) ∧ W.cell? ⟨b1, o1 + k * 3, none⟩ = some (.string x.name) ∧ W.cell? ⟨b1, o1 + k * 3 + 1, none⟩ = some (.int .i64 x.how) ∧ W.cell? ⟨b1, o1 + k * 3 + 2, none⟩ = some (.slice x1 x.words.length y1) ∧ W.cell? ⟨b2, o2 + k * 3, none⟩ = some (.string y.name) ∧ W.cell? ⟨b2, o2 + k * 3 + 1, none⟩ = some (.int .i64 y.how) ∧ W.cell? ⟨b2, o2 + k * 3 + 2, none⟩ = some (.slice x2 y.words.length y2)))
      have HBR := Lib.hid hbr
      have HLKK := Lib.hid hlk
      have HX := Lib.hid hX
      clear hbr hbw hm1 hm2 hlk p0 p1 p2 p3 p4 p5 q0 q1 q2 q3 q4 q5 hX HM1 HM2
      simp only [matCells] at *
      by_cases hkI2 : k = I
      · obtain ⟨hne, rfl⟩ := hrr hkI2
        obtain rfl : X = false := by rw [← HX.out]; exact eqB_no hne
        clear hrr hgg hkI2 hkI hne
        go_upto_region 6 with fail
        go_region_held3 (fun w' => w'.cell? ⟨g, 1, none⟩ = some (.slice (some ⟨b1, o1, none⟩) n.ms.length mc1) ∧ w'.cell? ⟨g + 1, 1, none⟩ = some (.slice (some ⟨b2, o2, none⟩) m.ms.length mc2) ∧ w'.cell? ⟨b1, o1 + k * 3, none⟩ = some (.string x.name) ∧ w'.cell? ⟨b1, o1 + k * 3 + 1, none⟩ = some (.int .i64 x.how) ∧ w'.cell? ⟨b1, o1 + k * 3 + 2, none⟩ = some (.slice x1 x.words.length y1) ∧ w'.cell? ⟨b2, o2 + k * 3, none⟩ = some (.string y.name) ∧ w'.cell? ⟨b2, o2 + k * 3 + 1, none⟩ = some (.int .i64 y.how) ∧ w'.cell? ⟨b2, o2 + k * 3 + 2, none⟩ = some (.slice x2 y.words.length y2))
          (first | exact HKP.out _ (Below.refl _ _).drew | exact HKP.out _ (bthen (Below.refl _ _).drew hb3))
          (first | (go_at_call 102; refine HLKK.out.mono ?_; rintro e w3 ⟨rfl, hb3⟩))
        all_goals
          have hb4 := bthen HB.out (bthen HBR.out (bthen (Below.refl _ _).drew hb3))
          go_wp2_with fail
          go_ret
          exact ⟨rfl, hb4⟩
      · obtain rfl := hgg hkI2
        obtain rfl : X = true := by rw [← HX.out]; exact eqB_yes rfl
        clear hrr hgg
        go_upto_region 6 with fail
        go_region_held3 (fun w' => w'.cell? ⟨g, 1, none⟩ = some (.slice (some ⟨b1, o1, none⟩) n.ms.length mc1) ∧ w'.cell? ⟨g + 1, 1, none⟩ = some (.slice (some ⟨b2, o2, none⟩) m.ms.length mc2) ∧ w'.cell? ⟨b1, o1 + k * 3, none⟩ = some (.string x.name) ∧ w'.cell? ⟨b1, o1 + k * 3 + 1, none⟩ = some (.int .i64 x.how) ∧ w'.cell? ⟨b1, o1 + k * 3 + 2, none⟩ = some (.slice x1 x.words.length y1) ∧ w'.cell? ⟨b2, o2 + k * 3, none⟩ = some (.string x.name) ∧ w'.cell? ⟨b2, o2 + k * 3 + 1, none⟩ = some (.int .i64 x.how) ∧ w'.cell? ⟨b2, o2 + k * 3 + 2, none⟩ = some (.slice x2 x.words.length y2))
          (first | exact HKP.out _ (Below.refl _ _).drew | exact HKP.out _ (bthen (Below.refl _ _).drew hb3))
          (first | (go_at_call 102; refine HLKK.out.mono ?_; rintro e w3 ⟨rfl, hb3⟩))
        all_goals
          have hb4 := bthen HBR.out (bthen (Below.refl _ _).drew hb3)
          go_wp2_with fail
          go_roundg gg
          case measure => omega
          case rel => exact ⟨k + 1, by omega, by omega, by go_num, hb4⟩
    | zero =>
      obtain rfl : k = n.ms.length := by omega
      have hms : n.ms = m.ms := by
        rcases HEI.out with ⟨_, e⟩ | ⟨h1, _, _, _⟩
        · exact e
        · omega
      have GF3 := Lib.hid (GF2.out hms)
      have c8 := (HAC.out wr hbr).2.2.2.2.2.2.2.2
      have HBR0 := Lib.hid hbr
      clear hms HEI HGI HM1 HM2 hkg hkI hI hbr
      obtain ⟨wz, hwz⟩ : ∃ W, W = wr := ⟨_, rfl⟩
      subst hwz
      go_wp2_with fail
      clear c8
      go_loopg [80, 6] n.kids.length (fun gg iv _ wr => ∃ k : Nat, k + gg = n.kids.length ∧ k ≤ J ∧ iv = .int .i64 (k : Int) ∧ Below wx.heap.size wx wr)
      case atStart => exact ⟨0, by omega, Nat.zero_le _, rfl, HBR0.out⟩
      case round =>
        obtain ⟨k, hkg, hkI, rfl, hbr⟩ := hrel
        cases gk with
        | zero =>
          obtain rfl : k = n.kids.length := by omega
          have hks : n.kids = m.kids := by
            rcases HEJ.out with ⟨_, e⟩ | ⟨h1, _, _, _⟩
            · exact e
            · omega
          have hRR := GF3.out hks
          obtain ⟨c0, c1, c2, c3, c4, c5, c6, c7, c8⟩ := HAC.out _ hbr
          obtain ⟨d0, d1, d2, d3, d4, d5, d6, d7, d8⟩ := HDC.out _ hbr
          have HBR := Lib.hid hbr
          have HRR := Lib.hid hRR
          clear hks hRR hbr GF2 GF3
          cases C1 with
          | false =>
            go_wp2_with (go_at_call 44; (with_reducible refine (HSB.out _ (bthen HB.out HBR.out)).mono ?_); rintro e w3 ⟨rfl, hb3⟩)
            go_ret
            exact ⟨by rw [HRR.out]; rfl, bthen HB.out (bthen HBR.out hb3)⟩
          | true =>
            go_wp2_with (first
              | (go_at_call 44; (with_reducible refine (HSB.out _ (bthen HB.out HBR.out)).mono ?_); rintro e w3 ⟨rfl, hb3⟩; obtain ⟨f0, f1, f2, f3, f4, f5, f6, f7, f8⟩ := HAC.out _ (bthen HBR.out hb3); obtain ⟨g0, g1, g2, g3, g4, g5, g6, g7, g8⟩ := HDC.out _ (bthen HBR.out hb3))
              | (go_at_call 44; (with_reducible refine (HSU.out _ (bthen HB.out (bthen HBR.out hb3))).mono ?_); rintro e w4 ⟨rfl, hb4⟩))
            go_ret
            exact ⟨by rw [HRR.out]; rfl, bthen HB.out (bthen HBR.out (bthen hb3 hb4))⟩
        | succ gg =>
          have hkl : k < n.kids.length := by omega
          have hkm : k < m.kids.length := by have := HJL.out; omega
          obtain ⟨b1, o1, rfl, r, hrn, hrl, _, hrM⟩ : ∃ b off, ka1 = some ⟨b, off, none⟩ ∧ ∃ r : RtAt, r.n = n.kids[k] ∧ r.lies w0 b (off + k * 9) ∧ r.ok w0 ∧ Lk9 w0 r := by
            rcases HPL.out with h | ⟨b, off, h1, _, h3⟩
            · rw [h] at hkl; simp at hkl
            · exact ⟨b, off, h1, h3 k hkl⟩
          obtain ⟨b2, o2, rfl, s, hsn, hsl, hso⟩ : ∃ b off, ka2 = some ⟨b, off, none⟩ ∧ ∃ r : RtAt, r.n = m.kids[k] ∧ r.lies w b (off + k * 9) ∧ r.ok w := by
            rcases HPP.out with h | ⟨b, off, h1, _, h3⟩
            · rw [h] at hkm; simp at hkm
            · exact ⟨b, off, h1, h3 k hkm⟩
          have hrr : k = J → r.n ≠ s.n ∧ R = false := fun e => by
            rcases HEJ.out with ⟨h1, _⟩ | ⟨_, _, h3, h4⟩
            · omega
            · subst e
              rw [hrn, hsn]
              exact ⟨h3, G7.out h4⟩
          have hgg : k ≠ J → r.n = s.n := fun e => by rw [hrn, hsn]; exact HGJ.out k hkl hkm (by omega)
          have hbw := bthen HB.out hbr
          have hM := hrM s wr.drew (hso.call (bthen hbw (Below.refl _ _).drew)) (bthen (bthen HW.out hbw) (Below.refl _ _).drew)
          obtain ⟨X, hX⟩ : ∃ X, eqB (r.n = s.n) = X := ⟨_, rfl⟩
          rw [hX] at hM
          have hry : k = J → X = false ∧ R = false := fun e => ⟨by rw [← hX]; exact eqB_no (hrr e).1, (hrr e).2⟩
          have hgy : k ≠ J → X = true := fun e => by rw [← hX]; exact eqB_yes (hgg e)
          have HKP := Lib.hid (fun W (hW : Below wr.heap.size wr W) => (show W.cell? ⟨g, 8, none⟩ = some (.slice (some ⟨b1, o1, none⟩) n.kids.length kc1) ∧ W.cell? ⟨g + 1, 8, none⟩ = some (.slice (some ⟨b2, o2, none⟩) m.kids.length kc2) ∧ r.lies W b1 (o1 + k * 9) ∧ s.lies W b2 (o2 + k * 9) from ⟨(HAC.out W (bthen hbr hW)).2.2.2.2.2.2.2.2, (HDC.out W (bthen hbr hW)).2.2.2.2.2.2.2.2, hrl.call (bthen (bthen HW.out hbw) hW), hsl.call (bthen hbw hW)⟩))
          have HBR := Lib.hid hbr
          have HMM := Lib.hid hM
          clear hbr hbw hM hX hrr hgg hrn hsn hrl hsl hso hrM
          obtain ⟨r, ra, rc, rba, rbc, rua, ruc, qa, qc⟩ := r
          obtain ⟨s, sa, sc, sba, sbc, sua, suc, pa, pc⟩ := s
          simp only [tCells, RtAt.lies] at *
          by_cases hkI2 : k = J
          · obtain ⟨rfl, rfl⟩ := hry hkI2
            clear hry hgy hkI2 hkI
            go_upto_region 12 with fail
            go_region_held3 (fun w' => w'.cell? ⟨g, 8, none⟩ = some (.slice (some ⟨b1, o1, none⟩) n.kids.length kc1) ∧ w'.cell? ⟨g + 1, 8, none⟩ = some (.slice (some ⟨b2, o2, none⟩) m.kids.length kc2) ∧ (w'.cell? ⟨b1, o1 + k * 9, none⟩ = some (.string r.recv) ∧ w'.cell? ⟨b1, o1 + k * 9 + 1, none⟩ = some (.slice ra r.ms.length rc) ∧ w'.cell? ⟨b1, o1 + k * 9 + 2, none⟩ = some (.slice rba r.bys.length rbc) ∧ w'.cell? ⟨b1, o1 + k * 9 + 3, none⟩ = some (.int .i64 r.wait) ∧
  w'.cell? ⟨b1, o1 + k * 9 + 4, none⟩ = some (.int .i64 r.every) ∧ w'.cell? ⟨b1, o1 + k * 9 + 5, none⟩ = some (.int .i64 r.rep) ∧ w'.cell? ⟨b1, o1 + k * 9 + 6, none⟩ = some (.slice rua r.mute.length ruc) ∧ w'.cell? ⟨b1, o1 + k * 9 + 7, none⟩ = some (.bool r.on) ∧ w'.cell? ⟨b1, o1 + k * 9 + 8, none⟩ = some (.slice qa r.kids.length qc)) ∧
  (w'.cell? ⟨b2, o2 + k * 9, none⟩ = some (.string s.recv) ∧ w'.cell? ⟨b2, o2 + k * 9 + 1, none⟩ = some (.slice sa s.ms.length sc) ∧ w'.cell? ⟨b2, o2 + k * 9 + 2, none⟩ = some (.slice sba s.bys.length sbc) ∧ w'.cell? ⟨b2, o2 + k * 9 + 3, none⟩ = some (.int .i64 s.wait) ∧
  w'.cell? ⟨b2, o2 + k * 9 + 4, none⟩ = some (.int .i64 s.every) ∧ w'.cell? ⟨b2, o2 + k * 9 + 5, none⟩ = some (.int .i64 s.rep) ∧ w'.cell? ⟨b2, o2 + k * 9 + 6, none⟩ = some (.slice sua s.mute.length suc) ∧ w'.cell? ⟨b2, o2 + k * 9 + 7, none⟩ = some (.bool s.on) ∧ w'.cell? ⟨b2, o2 + k * 9 + 8, none⟩ = some (.slice pa s.kids.length pc)))
              (first | exact HKP.out _ (Below.refl _ _).drew | exact HKP.out _ (bthen (Below.refl _ _).drew hb3))
              (first | (go_at_call 47; refine HMM.out.mono ?_; rintro e w3 ⟨rfl, hb3⟩))
            all_goals
              have hb4 := bthen HB.out (bthen HBR.out (bthen (Below.refl _ _).drew hb3))
              go_wp2_with fail
              go_ret
              exact ⟨rfl, hb4⟩
          · obtain rfl := hgy hkI2
            clear hry hgy
            go_upto_region 12 with fail
            go_region_held3 (fun w' => w'.cell? ⟨g, 8, none⟩ = some (.slice (some ⟨b1, o1, none⟩) n.kids.length kc1) ∧ w'.cell? ⟨g + 1, 8, none⟩ = some (.slice (some ⟨b2, o2, none⟩) m.kids.length kc2) ∧ (w'.cell? ⟨b1, o1 + k * 9, none⟩ = some (.string r.recv) ∧ w'.cell? ⟨b1, o1 + k * 9 + 1, none⟩ = some (.slice ra r.ms.length rc) ∧ w'.cell? ⟨b1, o1 + k * 9 + 2, none⟩ = some (.slice rba r.bys.length rbc) ∧ w'.cell? ⟨b1, o1 + k * 9 + 3, none⟩ = some (.int .i64 r.wait) ∧
  w'.cell? ⟨b1, o1 + k * 9 + 4, none⟩ = some (.int .i64 r.every) ∧ w'.cell? ⟨b1, o1 + k * 9 + 5, none⟩ = some (.int .i64 r.rep) ∧ w'.cell? ⟨b1, o1 + k * 9 + 6, none⟩ = some (.slice rua r.mute.length ruc) ∧ w'.cell? ⟨b1, o1 + k * 9 + 7, none⟩ = some (.bool r.on) ∧ w'.cell? ⟨b1, o1 + k * 9 + 8, none⟩ = some (.slice qa r.kids.length qc)) ∧
  (w'.cell? ⟨b2, o2 + k * 9, none⟩ = some (.string s.recv) ∧ w'.cell? ⟨b2, o2 + k * 9 + 1, none⟩ = some (.slice sa s.ms.length sc) ∧ w'.cell? ⟨b2, o2 + k * 9 + 2, none⟩ = some (.slice sba s.bys.length sbc) ∧ w'.cell? ⟨b2, o2 + k * 9 + 3, none⟩ = some (.int .i64 s.wait) ∧
  w'.cell? ⟨b2, o2 + k * 9 + 4, none⟩ = some (.int .i64 s.every) ∧ w'.cell? ⟨b2, o2 + k * 9 + 5, none⟩ = some (.int .i64 s.rep) ∧ w'.cell? ⟨b2, o2 + k * 9 + 6, none⟩ = some (.slice sua s.mute.length suc) ∧ w'.cell? ⟨b2, o2 + k * 9 + 7, none⟩ = some (.bool s.on) ∧ w'.cell? ⟨b2, o2 + k * 9 + 8, none⟩ = some (.slice pa s.kids.length pc)))
              (first | exact HKP.out _ (Below.refl _ _).drew | exact HKP.out _ (bthen (Below.refl _ _).drew hb3))
              (first | (go_at_call 47; refine HMM.out.mono ?_; rintro e w3 ⟨rfl, hb3⟩))
            all_goals
              have hb4 := bthen HBR.out (bthen (Below.refl _ _).drew hb3)
              go_wp2_with fail
              go_roundg gg
              case measure => omega
              case rel => exact ⟨k + 1, by omega, by omega, by go_num, hb4⟩
theorem like9_any {w0 : World} {q : RtAt} (h : q.ok w0) : Lk9 w0 q := by
  induction h with
  | flat q h0 h1 => exact lk9_step q h0.1 h0.2 (.inl h1)
  | row q b off R h0 h1 h2 h3 h4 h5 ih => exact lk9_step q h0.1 h0.2 (.inr ⟨b, off, h1, h2, fun i hi => ⟨R i, h3 i hi, h4 i hi, h5 i hi, ih i hi⟩⟩)
end Go.Proofs.YtmhekhilgllciaaGreat
