/- The contracts of the document's own Same, Get, Keep, and of label.Keep. -/
import Derived.Test.YtdlhmjdjoadioabGreatDoorMg8
import Derived.Test.YtdlhmjdjoadioabGreatDoorMg13
import Derived.Test.YtdlhmjdjoadioabGreatDoorZRulB
import Derived.Test.YtdlhmjdjoadioabGreatDoorZRulI
namespace Go.Proofs.YtdlhmjdjoadioabGreatDoor
open Go.RowKit
open Go.WideShapes (bytes_inj)

set_option maxHeartbeats 1600000 in
set_option maxRecDepth 100000 in
theorem rSame_some (b off c b' off' c' : Nat) (ls ms : List Lab) (w : World) (hlc : ls.length ≤ c) (hcm : c ≤ maxLen) (hlc' : ms.length ≤ c') (_hcm' : c' ≤ maxLen) (_hb : b < w.heap.size) (_hb' : b' < w.heap.size)
    (hcell : ∀ i (h : i < ls.length), w.cell? ⟨b, off + i * 2, none⟩ = some (.string ls[i].1) ∧ w.cell? ⟨b, off + i * 2 + 1, none⟩ = some (.string ls[i].2))
    (hcell' : ∀ i (h : i < ms.length), w.cell? ⟨b', off' + i * 2, none⟩ = some (.string ms[i].1) ∧ w.cell? ⟨b', off' + i * 2 + 1, none⟩ = some (.string ms[i].2)) (hl : ls.length = ms.length) :
    Calls Tryz.prog 28 #[.slice (some ⟨b, off, none⟩) ls.length c, .slice (some ⟨b', off', none⟩) ms.length c'] w (BoolB (decide (ls = ms)) w) := by
  unfold maxLen at hcm _hcm'
  have HC := Lib.hid hcell
  have HC' := Lib.hid hcell'
  have hlen : ((ls.length : Int) != (ms.length : Int)) = false := by rw [hl]; simp
  have hlb : ms.length ≤ ls.length := by omega
  have hlb' : ls.length ≤ ms.length := by omega
  have HL := Lib.hid hl
  clear hcell hcell' hl
  go_enter Tryz.func28, Tryz.ntmps28
  go_wp2
  go_loopw [13] (fun i wr => ∃ k : Nat, k ≤ ls.length ∧ i = .int .i64 k ∧ ls.take k = ms.take k ∧ Below w.heap.size w wr) (fun i _ => ls.length - (intOf i).toNat)
  case atStart => exact ⟨0, Nat.zero_le _, rfl, rfl, Below.refl _ _⟩
  case round =>
    obtain ⟨k, hk, rfl, he, hbl⟩ := hrel
    have HE := Lib.hid he
    clear he
    by_cases hkl : k < ls.length
    · have hkm : k < ms.length := by omega
      have hc1 := cellLater hbl (HC.out k hkl).1
      have hc2 := cellLater hbl (HC.out k hkl).2
      have hd1 := cellLater hbl (HC'.out k hkm).1
      have hd2 := cellLater hbl (HC'.out k hkm).2
      have hne := fun W => run_neq_lab ls[k] (ms[k]'hkm) W
      by_cases hq : ls[k] = ms[k]'hkm
      · have htk : ls.take (k + 1) = ms.take (k + 1) := by
          rw [List.take_succ_eq_append_getElem hkl, List.take_succ_eq_append_getElem hkm, HE.out, hq]
        have HT := Lib.hid htk
        rw [decide_eq_true hq] at hne
        clear htk hq
        go_wp2_with fail
        go_quiet (fail)
        go_wp2
        go_roundw
        case rel => exact ⟨k + 1, by omega, by go_num, HT.out, below_drewN hbl _⟩
        case measure => simp [intOf]; omega
      · have hf : decide (ls = ms) = false := by
          rw [decide_eq_false_iff_not]
          intro e
          subst e
          exact hq rfl
        have HF := Lib.hid hf
        rw [decide_eq_false hq] at hne
        clear hq hf
        go_wp2_with fail
        go_quiet (fail)
        go_wp2
        go_ret
        rw [HF.out]
        exact ⟨rfl, below_drewN hbl _⟩
    · have ht : decide (ls = ms) = true := by
        have := HE.out
        rw [List.take_of_length_le (by omega), List.take_of_length_le (by omega)] at this
        rw [decide_eq_true_iff]; exact this
      go_wp2
      go_ret
      rw [ht]
      exact ⟨rfl, hbl⟩

theorem rSame_any (a a' : Option Addr) (c c' : Nat) (ls ms : List Lab) (w : World) (h : HasLabs w a c ls) (h' : HasLabs w a' c' ms) :
    Calls Tryz.prog 28 #[.slice a ls.length c, .slice a' ms.length c'] w (BoolB (decide (ls = ms)) w) := by
  obtain ⟨h1, h2, h3, h4⟩ := h
  obtain ⟨g1, g2, g3, g4⟩ := h'
  unfold maxLen at h2 g2
  by_cases hl : ls.length = ms.length
  · rcases h4 with rfl | ⟨b, off, rfl, hb, hc⟩
    · obtain rfl : ms = [] := List.eq_nil_of_length_eq_zero hl.symm
      go_enter Tryz.func28, Tryz.ntmps28
      go_wp2
      refine wp_loop_rounds 1 ?_
      rw [rounds_succ]
      go_wp2
      go_ret
      exact ⟨rfl, Below.refl _ _⟩
    · rcases g4 with rfl | ⟨b', off', rfl, hb', hc'⟩
      · obtain rfl : ls = [] := List.eq_nil_of_length_eq_zero hl
        go_enter Tryz.func28, Tryz.ntmps28
        go_wp2
        refine wp_loop_rounds 1 ?_
        rw [rounds_succ]
        go_wp2
        go_ret
        exact ⟨rfl, Below.refl _ _⟩
      · exact rSame_some b off c b' off' c' ls ms w h1 (by unfold maxLen; omega) g1 (by unfold maxLen; omega) hb hb' hc hc' hl
  · have hlen : ((ls.length : Int) != (ms.length : Int)) = true := by rw [bne_iff_ne]; omega
    have hf : decide (ls = ms) = false := by
      rw [decide_eq_false_iff_not]
      intro e
      exact hl (by rw [e])
    rw [hf]
    clear hl hf h3 h4 g3 g4
    go_enter Tryz.func28, Tryz.ntmps28
    go_wp2
    go_ret
    exact ⟨rfl, Below.refl _ _⟩
end Go.Proofs.YtdlhmjdjoadioabGreatDoor
/- The contracts of the document's own Like of layer 8. -/
namespace Go.Proofs.YtdlhmjdjoadioabGreatDoor
open Go.RowKit

set_option maxHeartbeats 6400000 in
set_option maxRecDepth 100000 in
theorem rrLike_any (r r' : Rul) (a a' : Option Addr) (c c' : Nat) (w : World) (h : RulAt w r a c) (h' : RulAt w r' a' c') : Calls Tryz.prog 10 #[.agg (rCells r a c), .agg (rCells r' a' c')] w (BoolB (likeR r r') w) := by
  obtain ⟨n, m, k, l, f, p, t, ls⟩ := r
  obtain ⟨n2, m2, k2, l2, f2, p2, t2, ms⟩ := r'
  obtain ⟨hW, _, _⟩ := h
  obtain ⟨hW', _, _⟩ := h'
  simp only [rCells, likeR] at *
  have HE := Lib.hid (fun W (hb : Below w.heap.size w W) => rSame_any a a' c c' ls ms W (hW.call hb) (hW'.call hb))
  have hb1 := (Blk.new w 24 #[.string n, .string m, .int .i64 k, .int .i64 l, .int .i64 f, .int .i64 p, .int .i64 t, .slice a ls.length c]).alloc (.cells #[.string n2, .string m2, .int .i64 k2, .int .i64 l2, .int .i64 f2, .int .i64 p2, .int .i64 t2, .slice a' ms.length c'] 24)
  have hb3 := Blk.new (w.alloc (.cells #[.string n, .string m, .int .i64 k, .int .i64 l, .int .i64 f, .int .i64 p, .int .i64 t, .slice a ls.length c] 24)) 24 #[.string n2, .string m2, .int .i64 k2, .int .i64 l2, .int .i64 f2, .int .i64 p2, .int .i64 t2, .slice a' ms.length c']
  have hbl := ((Below.refl _ w).alloc (Nat.le_refl _) (.cells #[.string n, .string m, .int .i64 k, .int .i64 l, .int .i64 f, .int .i64 p, .int .i64 t, .slice a ls.length c] 24)).alloc (by simp) (.cells #[.string n2, .string m2, .int .i64 k2, .int .i64 l2, .int .i64 f2, .int .i64 p2, .int .i64 t2, .slice a' ms.length c'] 24)
  have e1 : (w.alloc (.cells #[.string n, .string m, .int .i64 k, .int .i64 l, .int .i64 f, .int .i64 p, .int .i64 t, .slice a ls.length c] 24)).heap.size = w.heap.size + 1 := by simp
  rw [e1] at hb3
  obtain ⟨x0, x1, x2, x3, x4, x5, x6, x7⟩ := hb1.cells8
  obtain ⟨y0, y1, y2, y3, y4, y5, y6, y7⟩ := hb3.cells8
  have HB := Lib.hid hbl
  obtain ⟨D, hD⟩ : ∃ D, decide (ls = ms) = D := ⟨_, rfl⟩
  rw [hD]
  rw [hD] at HE
  clear hW hW' hb1 hb3 hbl e1 hD
  by_cases h0 : n = n2
  · have q0 : (n.toList == n2.toList) = true := by rw [name_eqR]; exact decide_eq_true h0
    rw [decide_eq_true h0, Bool.true_and]
    clear h0
    by_cases h1 : m = m2
    · have q1 : (m.toList == m2.toList) = true := by rw [name_eqR]; exact decide_eq_true h1
      rw [decide_eq_true h1, Bool.true_and]
      clear h1
      by_cases h2 : k = k2
      · have q2 : (k == k2) = true := beq_iff_eq.2 h2
        rw [decide_eq_true h2, Bool.true_and]
        clear h2
        by_cases h3 : l = l2
        · have q3 : (l == l2) = true := beq_iff_eq.2 h3
          rw [decide_eq_true h3, Bool.true_and]
          clear h3
          by_cases h4 : f = f2
          · have q4 : (f == f2) = true := beq_iff_eq.2 h4
            rw [decide_eq_true h4, Bool.true_and]
            clear h4
            by_cases h5 : p = p2
            · have q5 : (p == p2) = true := beq_iff_eq.2 h5
              rw [decide_eq_true h5, Bool.true_and]
              clear h5
              by_cases h6 : t = t2
              · have q6 : (t == t2) = true := beq_iff_eq.2 h6
                rw [decide_eq_true h6, Bool.true_and]
                clear h6
                go_enter Tryz.func10, Tryz.ntmps10
                go_wp2_with (go_at_call 28; refine (HE.out _ HB.out).mono ?_; rintro e w2 ⟨rfl, hb2⟩)
                go_ret
                exact ⟨rfl, bthen HB.out hb2⟩
              · have q6 : (t == t2) = false := beq_eq_false_iff_ne.2 h6
                rw [decide_eq_false h6, Bool.false_and]
                clear h6
                go_enter Tryz.func10, Tryz.ntmps10
                go_wp2_with fail
                go_ret
                exact ⟨rfl, HB.out⟩
            · have q5 : (p == p2) = false := beq_eq_false_iff_ne.2 h5
              rw [decide_eq_false h5, Bool.false_and]
              clear h5
              go_enter Tryz.func10, Tryz.ntmps10
              go_wp2_with fail
              go_ret
              exact ⟨rfl, HB.out⟩
          · have q4 : (f == f2) = false := beq_eq_false_iff_ne.2 h4
            rw [decide_eq_false h4, Bool.false_and]
            clear h4
            go_enter Tryz.func10, Tryz.ntmps10
            go_wp2_with fail
            go_ret
            exact ⟨rfl, HB.out⟩
        · have q3 : (l == l2) = false := beq_eq_false_iff_ne.2 h3
          rw [decide_eq_false h3, Bool.false_and]
          clear h3
          go_enter Tryz.func10, Tryz.ntmps10
          go_wp2_with fail
          go_ret
          exact ⟨rfl, HB.out⟩
      · have q2 : (k == k2) = false := beq_eq_false_iff_ne.2 h2
        rw [decide_eq_false h2, Bool.false_and]
        clear h2
        go_enter Tryz.func10, Tryz.ntmps10
        go_wp2_with fail
        go_ret
        exact ⟨rfl, HB.out⟩
    · have q1 : (m.toList == m2.toList) = false := by rw [name_eqR]; exact decide_eq_false h1
      rw [decide_eq_false h1, Bool.false_and]
      clear h1
      go_enter Tryz.func10, Tryz.ntmps10
      go_wp2_with fail
      go_ret
      exact ⟨rfl, HB.out⟩
  · have q0 : (n.toList == n2.toList) = false := by rw [name_eqR]; exact decide_eq_false h0
    rw [decide_eq_false h0, Bool.false_and]
    clear h0
    go_enter Tryz.func10, Tryz.ntmps10
    go_wp2_with fail
    go_ret
    exact ⟨rfl, HB.out⟩
end Go.Proofs.YtdlhmjdjoadioabGreatDoor
