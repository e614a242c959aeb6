/- The contract of rules.Right. -/
import Derived.Test.YtmhekhilgllciaaGreatRulA
import Derived.Test.YtmhekhilgllciaaGreatOwn
namespace Go.Proofs.YtmhekhilgllciaaGreat
open Go.RowKit

abbrev rCells (r : Rul) (a : Option Addr) (c : Nat) : Array Value := #[.string r.name, .string r.metric, .int .i64 r.how, .int .i64 r.limit, .int .i64 r.fr, .int .i64 r.keep, .int .i64 r.tries, .slice a r.labels.length c]
/-- the rule's labels lie at a, and its words are no longer than any may be -/
def RulAt (w : World) (r : Rul) (a : Option Addr) (c : Nat) : Prop := HasLabs w a c r.labels ∧ r.name.size ≤ maxLen ∧ r.metric.size ≤ maxLen
theorem RulAt.call {w w' : World} {r : Rul} {a : Option Addr} {c : Nat} (h : RulAt w r a c) (hb : Below w.heap.size w w') : RulAt w' r a c := ⟨h.1.call hb, h.2⟩
theorem Blk.cells8 {w : World} {g : Nat} {t : TypeId} {x0 x1 x2 x3 x4 x5 x6 x7 : Value} (h : Blk w g t #[x0, x1, x2, x3, x4, x5, x6, x7]) :
    w.cell? ⟨g, 0, none⟩ = some x0 ∧ w.cell? ⟨g, 1, none⟩ = some x1 ∧ w.cell? ⟨g, 2, none⟩ = some x2 ∧ w.cell? ⟨g, 3, none⟩ = some x3 ∧ w.cell? ⟨g, 4, none⟩ = some x4 ∧ w.cell? ⟨g, 5, none⟩ = some x5 ∧ w.cell? ⟨g, 6, none⟩ = some x6 ∧ w.cell? ⟨g, 7, none⟩ = some x7 :=
  ⟨h.cell 0, h.cell 1, h.cell 2, h.cell 3, h.cell 4, h.cell 5, h.cell 6, h.cell 7⟩

set_option maxHeartbeats 6400000 in
set_option maxRecDepth 100000 in
theorem rulRight_any (r : Rul) (a : Option Addr) (c : Nat) (w : World) (h : RulAt w r a c) : Calls Tryz.prog 33 #[.agg (rCells r a c)] w (BoolB (rulC r) w) := by
  obtain ⟨n, m, k, l, f, p, t, ls⟩ := r
  obtain ⟨hl, hn, hm⟩ := h
  simp only [rCells] at *
  have HN := Lib.hid (fun W => rword_any n W hn)
  have HM := Lib.hid (fun W => rword_any m W hm)
  have H3 := Lib.hid (fun W => within_any k 1 5 W)
  have H4 := Lib.hid (fun W => within_any l (-1099511627776) 1099511627776 W)
  have H5 := Lib.hid (fun W => within_any f 0 1099511627776 W)
  have H6 := Lib.hid (fun W => within_any p 0 1099511627776 W)
  have H7 := Lib.hid (fun W => within_any t 1 10 W)
  have H8 := Lib.hid (fun W (h : HasLabs W a c ls) => rlabs_any a c ls W h)
  unfold rulC
  simp only
  generalize bwC n.data.toList = A1 at *
  generalize bwC m.data.toList = A2 at *
  generalize inC k 1 5 = A3 at *
  generalize inC l (-1099511627776) 1099511627776 = A4 at *
  generalize inC f 0 1099511627776 = A5 at *
  generalize inC p 0 1099511627776 = A6 at *
  generalize inC t 1 10 = A7 at *
  generalize rlabsC ls = A8 at *
  have hb := (Below.refl w.heap.size w).alloc (Nat.le_refl _) (.cells #[.string n, .string m, .int .i64 k, .int .i64 l, .int .i64 f, .int .i64 p, .int .i64 t, .slice a ls.length c] 45)
  have hB := Blk.new w 45 #[.string n, .string m, .int .i64 k, .int .i64 l, .int .i64 f, .int .i64 p, .int .i64 t, .slice a ls.length c]
  have hl' := hl.call hb
  clear hl
  go_enter Tryz.func33, Tryz.ntmps33
  go_upto_region 1 with fail
  generalize w.alloc (.cells #[.string n, .string m, .int .i64 k, .int .i64 l, .int .i64 f, .int .i64 p, .int .i64 t, .slice a ls.length c] 45) = wx at *
  obtain ⟨c0, c1, c2, c3, c4, c5, c6, c7⟩ := hB.cells8
  cases A1 with
  | false =>
    go_wp2_with (first
      | (go_at_call 81; (with_reducible refine (HN.out _).mono ?_); rintro e w2 ⟨rfl, hb2⟩; have hB2 := hB.call hb2; have hl2 := hl'.call hb2; have hq2 := bthen hb hb2; obtain ⟨d0, d1, d2, d3, d4, d5, d6, d7⟩ := hB2.cells8))
    go_ret
    exact ⟨by simp, hq2⟩
  | true =>
    cases A2 with
    | false =>
      go_wp2_with (first
        | (go_at_call 81; (with_reducible refine (HN.out _).mono ?_); rintro e w2 ⟨rfl, hb2⟩; have hB2 := hB.call hb2; have hl2 := hl'.call hb2; have hq2 := bthen hb hb2; obtain ⟨d0, d1, d2, d3, d4, d5, d6, d7⟩ := hB2.cells8)
        | (go_at_call 81; (with_reducible refine (HM.out _).mono ?_); rintro e w3 ⟨rfl, hb3⟩; have hB3 := hB2.call hb3; have hl3 := hl2.call hb3; have hq3 := bthen hq2 hb3; obtain ⟨e0, e1, e2, e3, e4, e5, e6, e7⟩ := hB3.cells8))
      go_ret
      exact ⟨by simp, hq3⟩
    | true =>
      cases A3 with
      | false =>
        go_wp2_with (first
          | (go_at_call 81; (with_reducible refine (HN.out _).mono ?_); rintro e w2 ⟨rfl, hb2⟩; have hB2 := hB.call hb2; have hl2 := hl'.call hb2; have hq2 := bthen hb hb2; obtain ⟨d0, d1, d2, d3, d4, d5, d6, d7⟩ := hB2.cells8)
          | (go_at_call 81; (with_reducible refine (HM.out _).mono ?_); rintro e w3 ⟨rfl, hb3⟩; have hB3 := hB2.call hb3; have hl3 := hl2.call hb3; have hq3 := bthen hq2 hb3; obtain ⟨e0, e1, e2, e3, e4, e5, e6, e7⟩ := hB3.cells8)
          | (go_at_call 82; (with_reducible refine (H3.out _).mono ?_); rintro e wq ⟨rfl, rfl⟩))
        go_ret
        exact ⟨by simp, hq3⟩
      | true =>
        cases A4 with
        | false =>
          go_wp2_with (first
            | (go_at_call 81; (with_reducible refine (HN.out _).mono ?_); rintro e w2 ⟨rfl, hb2⟩; have hB2 := hB.call hb2; have hl2 := hl'.call hb2; have hq2 := bthen hb hb2; obtain ⟨d0, d1, d2, d3, d4, d5, d6, d7⟩ := hB2.cells8)
            | (go_at_call 81; (with_reducible refine (HM.out _).mono ?_); rintro e w3 ⟨rfl, hb3⟩; have hB3 := hB2.call hb3; have hl3 := hl2.call hb3; have hq3 := bthen hq2 hb3; obtain ⟨e0, e1, e2, e3, e4, e5, e6, e7⟩ := hB3.cells8)
            | (go_at_call 82; (with_reducible refine (H3.out _).mono ?_); rintro e wq ⟨rfl, rfl⟩)
            | (go_at_call 82; (with_reducible refine (H4.out _).mono ?_); rintro e wq ⟨rfl, rfl⟩))
          go_ret
          exact ⟨by simp, hq3⟩
        | true =>
          cases A5 with
          | false =>
            go_wp2_with (first
              | (go_at_call 81; (with_reducible refine (HN.out _).mono ?_); rintro e w2 ⟨rfl, hb2⟩; have hB2 := hB.call hb2; have hl2 := hl'.call hb2; have hq2 := bthen hb hb2; obtain ⟨d0, d1, d2, d3, d4, d5, d6, d7⟩ := hB2.cells8)
              | (go_at_call 81; (with_reducible refine (HM.out _).mono ?_); rintro e w3 ⟨rfl, hb3⟩; have hB3 := hB2.call hb3; have hl3 := hl2.call hb3; have hq3 := bthen hq2 hb3; obtain ⟨e0, e1, e2, e3, e4, e5, e6, e7⟩ := hB3.cells8)
              | (go_at_call 82; (with_reducible refine (H3.out _).mono ?_); rintro e wq ⟨rfl, rfl⟩)
              | (go_at_call 82; (with_reducible refine (H4.out _).mono ?_); rintro e wq ⟨rfl, rfl⟩)
              | (go_at_call 82; (with_reducible refine (H5.out _).mono ?_); rintro e wq ⟨rfl, rfl⟩))
            go_ret
            exact ⟨by simp, hq3⟩
          | true =>
            cases A6 with
            | false =>
              go_wp2_with (first
                | (go_at_call 81; (with_reducible refine (HN.out _).mono ?_); rintro e w2 ⟨rfl, hb2⟩; have hB2 := hB.call hb2; have hl2 := hl'.call hb2; have hq2 := bthen hb hb2; obtain ⟨d0, d1, d2, d3, d4, d5, d6, d7⟩ := hB2.cells8)
                | (go_at_call 81; (with_reducible refine (HM.out _).mono ?_); rintro e w3 ⟨rfl, hb3⟩; have hB3 := hB2.call hb3; have hl3 := hl2.call hb3; have hq3 := bthen hq2 hb3; obtain ⟨e0, e1, e2, e3, e4, e5, e6, e7⟩ := hB3.cells8)
                | (go_at_call 82; (with_reducible refine (H3.out _).mono ?_); rintro e wq ⟨rfl, rfl⟩)
                | (go_at_call 82; (with_reducible refine (H4.out _).mono ?_); rintro e wq ⟨rfl, rfl⟩)
                | (go_at_call 82; (with_reducible refine (H5.out _).mono ?_); rintro e wq ⟨rfl, rfl⟩)
                | (go_at_call 82; (with_reducible refine (H6.out _).mono ?_); rintro e wq ⟨rfl, rfl⟩))
              go_ret
              exact ⟨by simp, hq3⟩
            | true =>
              cases A7 with
              | false =>
                go_wp2_with (first
                  | (go_at_call 81; (with_reducible refine (HN.out _).mono ?_); rintro e w2 ⟨rfl, hb2⟩; have hB2 := hB.call hb2; have hl2 := hl'.call hb2; have hq2 := bthen hb hb2; obtain ⟨d0, d1, d2, d3, d4, d5, d6, d7⟩ := hB2.cells8)
                  | (go_at_call 81; (with_reducible refine (HM.out _).mono ?_); rintro e w3 ⟨rfl, hb3⟩; have hB3 := hB2.call hb3; have hl3 := hl2.call hb3; have hq3 := bthen hq2 hb3; obtain ⟨e0, e1, e2, e3, e4, e5, e6, e7⟩ := hB3.cells8)
                  | (go_at_call 82; (with_reducible refine (H3.out _).mono ?_); rintro e wq ⟨rfl, rfl⟩)
                  | (go_at_call 82; (with_reducible refine (H4.out _).mono ?_); rintro e wq ⟨rfl, rfl⟩)
                  | (go_at_call 82; (with_reducible refine (H5.out _).mono ?_); rintro e wq ⟨rfl, rfl⟩)
                  | (go_at_call 82; (with_reducible refine (H6.out _).mono ?_); rintro e wq ⟨rfl, rfl⟩)
                  | (go_at_call 82; (with_reducible refine (H7.out _).mono ?_); rintro e wq ⟨rfl, rfl⟩))
                go_ret
                exact ⟨by simp, hq3⟩
              | true =>
                go_wp2_with (first
                  | (go_at_call 81; (with_reducible refine (HN.out _).mono ?_); rintro e w2 ⟨rfl, hb2⟩; have hB2 := hB.call hb2; have hl2 := hl'.call hb2; have hq2 := bthen hb hb2; obtain ⟨d0, d1, d2, d3, d4, d5, d6, d7⟩ := hB2.cells8)
                  | (go_at_call 81; (with_reducible refine (HM.out _).mono ?_); rintro e w3 ⟨rfl, hb3⟩; have hB3 := hB2.call hb3; have hl3 := hl2.call hb3; have hq3 := bthen hq2 hb3; obtain ⟨e0, e1, e2, e3, e4, e5, e6, e7⟩ := hB3.cells8)
                  | (go_at_call 82; (with_reducible refine (H3.out _).mono ?_); rintro e wq ⟨rfl, rfl⟩)
                  | (go_at_call 82; (with_reducible refine (H4.out _).mono ?_); rintro e wq ⟨rfl, rfl⟩)
                  | (go_at_call 82; (with_reducible refine (H5.out _).mono ?_); rintro e wq ⟨rfl, rfl⟩)
                  | (go_at_call 82; (with_reducible refine (H6.out _).mono ?_); rintro e wq ⟨rfl, rfl⟩)
                  | (go_at_call 82; (with_reducible refine (H7.out _).mono ?_); rintro e wq ⟨rfl, rfl⟩)
                  | (go_at_call 83; (with_reducible refine (H8.out _ hl3).mono ?_); rintro e w4 ⟨rfl, hb4⟩; have hq4 := bthen hq3 hb4))
                go_ret
                exact ⟨by simp, hq4⟩
end Go.Proofs.YtmhekhilgllciaaGreat
