/- The contracts of rules.Like. -/
import Derived.Test.YtdlhmjdjoadioabGreatDoorZRulB
import Derived.Test.YtdlhmjdjoadioabGreatDoorMg15
namespace Go.Proofs.YtdlhmjdjoadioabGreatDoor
open Go.RowKit

def likeR (r s : Rul) : Bool := decide (r.name = s.name) && (decide (r.metric = s.metric) && (decide (r.how = s.how) && (decide (r.limit = s.limit) && (decide (r.fr = s.fr) && (decide (r.keep = s.keep) && (decide (r.tries = s.tries) && decide (r.labels = s.labels)))))))
theorem likeR_iff (r s : Rul) : likeR r s = true ↔ r = s := by
  obtain ⟨n, m, k, l, f, p, t, ls⟩ := r
  obtain ⟨n2, m2, k2, l2, f2, p2, t2, ms⟩ := s
  simp [likeR]
theorem likeR_refl (r : Rul) : likeR r r = true := (likeR_iff r r).2 rfl
theorem name_eqR (a b : ByteArray) : (a.toList == b.toList) = decide (a = b) := toList_eq_iff a b

set_option maxHeartbeats 6400000 in
set_option maxRecDepth 100000 in
theorem rulLike_any (r r' : Rul) (a a' : Option Addr) (c c' : Nat) (w : World) (h : RulAt w r a c) (h' : RulAt w r' a' c') : Calls Tryz.prog 15 #[.agg (rCells r a c), .agg (rCells r' a' c')] w (BoolB (likeR r r') w) := by
  obtain ⟨n, m, k, l, f, p, t, ls⟩ := r
  obtain ⟨n2, m2, k2, l2, f2, p2, t2, ms⟩ := r'
  obtain ⟨hW, _, _⟩ := h
  obtain ⟨hW', _, _⟩ := h'
  simp only [rCells, likeR] at *
  have HE := Lib.hid (fun W (hb : Below w.heap.size w W) => equalL_any a a' c c' ls ms W (hW.call hb) (hW'.call hb))
  have hb1 := (Blk.new w 24 #[.string n, .string m, .int .i64 k, .int .i64 l, .int .i64 f, .int .i64 p, .int .i64 t, .slice a ls.length c]).alloc (.cells #[.string n2, .string m2, .int .i64 k2, .int .i64 l2, .int .i64 f2, .int .i64 p2, .int .i64 t2, .slice a' ms.length c'] 24)
  have hb3 := Blk.new (w.alloc (.cells #[.string n, .string m, .int .i64 k, .int .i64 l, .int .i64 f, .int .i64 p, .int .i64 t, .slice a ls.length c] 24)) 24 #[.string n2, .string m2, .int .i64 k2, .int .i64 l2, .int .i64 f2, .int .i64 p2, .int .i64 t2, .slice a' ms.length c']
  have hbl := ((Below.refl _ w).alloc (Nat.le_refl _) (.cells #[.string n, .string m, .int .i64 k, .int .i64 l, .int .i64 f, .int .i64 p, .int .i64 t, .slice a ls.length c] 24)).alloc (by simp) (.cells #[.string n2, .string m2, .int .i64 k2, .int .i64 l2, .int .i64 f2, .int .i64 p2, .int .i64 t2, .slice a' ms.length c'] 24)
  have e1 : (w.alloc (.cells #[.string n, .string m, .int .i64 k, .int .i64 l, .int .i64 f, .int .i64 p, .int .i64 t, .slice a ls.length c] 24)).heap.size = w.heap.size + 1 := by simp
  rw [e1] at hb3
  obtain ⟨x0, x1, x2, x3, x4, x5, x6, x7⟩ := hb1.cells8
  obtain ⟨y0, y1, y2, y3, y4, y5, y6, y7⟩ := hb3.cells8
  have HB := Lib.hid hbl
  obtain ⟨D, hD⟩ : ∃ D, decide (ls = ms) = D := ⟨_, rfl⟩
  rw [hD]
  rw [hD] at HE
  clear hW hW' hb1 hb3 hbl e1 hD
  by_cases h0 : n = n2
  · have q0 : (n.toList == n2.toList) = true := by rw [name_eqR]; exact decide_eq_true h0
    rw [decide_eq_true h0, Bool.true_and]
    clear h0
    by_cases h1 : m = m2
    · have q1 : (m.toList == m2.toList) = true := by rw [name_eqR]; exact decide_eq_true h1
      rw [decide_eq_true h1, Bool.true_and]
      clear h1
      by_cases h2 : k = k2
      · have q2 : (k == k2) = true := beq_iff_eq.2 h2
        rw [decide_eq_true h2, Bool.true_and]
        clear h2
        by_cases h3 : l = l2
        · have q3 : (l == l2) = true := beq_iff_eq.2 h3
          rw [decide_eq_true h3, Bool.true_and]
          clear h3
          by_cases h4 : f = f2
          · have q4 : (f == f2) = true := beq_iff_eq.2 h4
            rw [decide_eq_true h4, Bool.true_and]
            clear h4
            by_cases h5 : p = p2
            · have q5 : (p == p2) = true := beq_iff_eq.2 h5
              rw [decide_eq_true h5, Bool.true_and]
              clear h5
              by_cases h6 : t = t2
              · have q6 : (t == t2) = true := beq_iff_eq.2 h6
                rw [decide_eq_true h6, Bool.true_and]
                clear h6
                go_enter Tryz.func15, Tryz.ntmps15
                go_wp2_with (go_at_call 35; refine (HE.out _ HB.out).mono ?_; rintro e w2 ⟨rfl, hb2⟩)
                go_ret
                exact ⟨rfl, bthen HB.out hb2⟩
              · have q6 : (t == t2) = false := beq_eq_false_iff_ne.2 h6
                rw [decide_eq_false h6, Bool.false_and]
                clear h6
                go_enter Tryz.func15, Tryz.ntmps15
                go_wp2_with fail
                go_ret
                exact ⟨rfl, HB.out⟩
            · have q5 : (p == p2) = false := beq_eq_false_iff_ne.2 h5
              rw [decide_eq_false h5, Bool.false_and]
              clear h5
              go_enter Tryz.func15, Tryz.ntmps15
              go_wp2_with fail
              go_ret
              exact ⟨rfl, HB.out⟩
          · have q4 : (f == f2) = false := beq_eq_false_iff_ne.2 h4
            rw [decide_eq_false h4, Bool.false_and]
            clear h4
            go_enter Tryz.func15, Tryz.ntmps15
            go_wp2_with fail
            go_ret
            exact ⟨rfl, HB.out⟩
        · have q3 : (l == l2) = false := beq_eq_false_iff_ne.2 h3
          rw [decide_eq_false h3, Bool.false_and]
          clear h3
          go_enter Tryz.func15, Tryz.ntmps15
          go_wp2_with fail
          go_ret
          exact ⟨rfl, HB.out⟩
      · have q2 : (k == k2) = false := beq_eq_false_iff_ne.2 h2
        rw [decide_eq_false h2, Bool.false_and]
        clear h2
        go_enter Tryz.func15, Tryz.ntmps15
        go_wp2_with fail
        go_ret
        exact ⟨rfl, HB.out⟩
    · have q1 : (m.toList == m2.toList) = false := by rw [name_eqR]; exact decide_eq_false h1
      rw [decide_eq_false h1, Bool.false_and]
      clear h1
      go_enter Tryz.func15, Tryz.ntmps15
      go_wp2_with fail
      go_ret
      exact ⟨rfl, HB.out⟩
  · have q0 : (n.toList == n2.toList) = false := by rw [name_eqR]; exact decide_eq_false h0
    rw [decide_eq_false h0, Bool.false_and]
    clear h0
    go_enter Tryz.func15, Tryz.ntmps15
    go_wp2_with fail
    go_ret
    exact ⟨rfl, HB.out⟩
end Go.Proofs.YtdlhmjdjoadioabGreatDoor
