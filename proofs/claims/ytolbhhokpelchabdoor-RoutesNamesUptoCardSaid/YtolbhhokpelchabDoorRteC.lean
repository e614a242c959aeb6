/- The contracts of routes.rightAlone and routes.Right. -/
import Derived.Test.YtolbhhokpelchabDoorRteB
import Derived.Test.YtolbhhokpelchabDoorLater
namespace Go.Proofs.YtolbhhokpelchabDoor
open Go.RowKit

set_option maxHeartbeats 6400000 in
set_option maxRecDepth 100000 in
theorem rteAlone_any (q : RtAt) (w : World) (h : q.own w) : Calls Tryd.prog 25 #[.agg (tCells q)] w (BoolB (aloneC q.n) w) := by
  have hb := (Below.refl w.heap.size w).alloc (Nat.le_refl _) (.cells (tCells q) 26)
  have hB := Blk.new w 26 (tCells q)
  obtain ⟨h0, h1, h2, h3, h4, h5⟩ := h.call hb
  have h16 : decide ((q.n.kids.length : Int) ≤ 16) = decide (q.n.kids.length ≤ 16) := by rw [Bool.eq_iff_iff]; simp; omega
  have hrc : q.n.recv.size ≤ maxLen := by unfold maxLen; omega
  have HCS := Lib.hid (fun W (hW : Below (w.alloc (.cells (tCells q) 26)).heap.size (w.alloc (.cells (tCells q) 26)) W) => (hB.call hW).cells9)
  have H0 := Lib.hid (fun W => rteWord_any q.n.recv W hrc)
  have H1 := Lib.hid (fun W (hW : Below (w.alloc (.cells (tCells q) 26)).heap.size (w.alloc (.cells (tCells q) 26)) W) => rteMatch_any q.ma q.mc q.n.ms W (h0.call hW))
  have H2 := Lib.hid (fun W (hW : Below (w.alloc (.cells (tCells q) 26)).heap.size (w.alloc (.cells (tCells q) 26)) W) => rteBy_any q.ba q.bc q.n.bys W (h1.call hW) h5.2.1)
  have H3 := Lib.hid (fun W => rteWithin_any q.n.wait 0 1099511627776 W)
  have H4 := Lib.hid (fun W => rteWithin_any q.n.every 1 1099511627776 W)
  have H5 := Lib.hid (fun W => rteWithin_any q.n.rep 1 1099511627776 W)
  have H6 := Lib.hid (fun W (hW : Below (w.alloc (.cells (tCells q) 26)).heap.size (w.alloc (.cells (tCells q) 26)) W) => rteMute_any q.ua q.uc q.n.mute W (h2.call hW))
  have HB := Lib.hid hb
  obtain ⟨c0, c1, c2, c3, c4, c5, c6, c7, c8⟩ := hB.cells9
  have hR : aloneC q.n = (bwC q.n.recv.data.toList && (matchC q.n.ms && (rightC (byLabs q.n.bys) && ((inRt q.n.wait 0 1099511627776 && (inRt q.n.every 1 1099511627776 && inRt q.n.rep 1 1099511627776)) && (muteC q.n.mute && decide (q.n.kids.length ≤ 16)))))) := rfl
  generalize decide (q.n.kids.length ≤ 16) = D at *
  obtain ⟨R, hRR⟩ : ∃ R, aloneC q.n = R := ⟨_, rfl⟩
  rw [hRR] at hR ⊢
  have HR := Lib.hid hR
  clear h h0 h1 h2 h3 h4 h5 hb hB hrc hR hRR
  obtain ⟨n, ma, mc, ba, bc, ua, uc, ka, kc⟩ := q
  simp only [tCells] at *
  generalize bwC n.recv.data.toList = B0 at *
  generalize matchC n.ms = B1 at *
  generalize rightC (byLabs n.bys) = B2 at *
  generalize inRt n.wait 0 1099511627776 = B3 at *
  generalize inRt n.every 1 1099511627776 = B4 at *
  generalize inRt n.rep 1 1099511627776 = B5 at *
  generalize muteC n.mute = B6 at *
  go_enter Tryd.func25, Tryd.ntmps25
  go_upto_region 1 with fail
  generalize w.alloc (.cells #[.string n.recv, .slice ma n.ms.length mc, .slice ba n.bys.length bc, .int .i64 n.wait, .int .i64 n.every, .int .i64 n.rep, .slice ua n.mute.length uc, .bool n.on, .slice ka n.kids.length kc] 26) = wx at *
  cases B0 with
  | false =>
    obtain rfl : R = false := HR.out
    go_wp2_with (go_at_call 45; refine (H0.out _).mono ?_; rintro e w2 ⟨rfl, hb2⟩)
    go_ret
    exact ⟨rfl, bthen HB.out hb2⟩
  | true =>
  cases B1 with
  | false =>
    obtain rfl : R = false := HR.out
    go_wp2_with (first
      | (go_at_call 45; refine (H0.out _).mono ?_; rintro e w2 ⟨rfl, hb2⟩; obtain ⟨_, d1, _, _, _, _, _, _, _⟩ := HCS.out _ hb2)
      | (go_at_call 46; refine (H1.out _ hb2).mono ?_; rintro e w3 ⟨rfl, hb3⟩))
    go_ret
    exact ⟨rfl, bthen HB.out (bthen hb2 hb3)⟩
  | true =>
  cases B2 with
  | false =>
    obtain rfl : R = false := HR.out
    go_wp2_with (first
      | (go_at_call 45; refine (H0.out _).mono ?_; rintro e w2 ⟨rfl, hb2⟩; obtain ⟨_, d1, _, _, _, _, _, _, _⟩ := HCS.out _ hb2)
      | (go_at_call 46; refine (H1.out _ hb2).mono ?_; rintro e w3 ⟨rfl, hb3'⟩; have hb3 := bthen hb2 hb3'; obtain ⟨_, _, e2, _, _, _, _, _, _⟩ := HCS.out _ hb3)
      | (go_at_call 47; refine (H2.out _ hb3).mono ?_; rintro e w4 ⟨rfl, hb4⟩))
    go_ret
    exact ⟨rfl, bthen HB.out (bthen hb3 hb4)⟩
  | true =>
  cases B3 with
  | false =>
    obtain rfl : R = false := HR.out
    go_wp2_with (first
      | (go_at_call 45; refine (H0.out _).mono ?_; rintro e w2 ⟨rfl, hb2⟩; obtain ⟨_, d1, _, _, _, _, _, _, _⟩ := HCS.out _ hb2)
      | (go_at_call 46; refine (H1.out _ hb2).mono ?_; rintro e w3 ⟨rfl, hb3'⟩; have hb3 := bthen hb2 hb3'; obtain ⟨_, _, e2, _, _, _, _, _, _⟩ := HCS.out _ hb3)
      | (go_at_call 47; refine (H2.out _ hb3).mono ?_; rintro e w4 ⟨rfl, hb4'⟩; have hb4 := bthen hb3 hb4'; obtain ⟨_, _, _, f3, f4, f5, f6, _, _⟩ := HCS.out _ hb4)
      | (go_at_call 48; refine (H3.out _).mono ?_; rintro e w5 ⟨rfl, rfl⟩))
    go_ret
    exact ⟨rfl, bthen HB.out hb4⟩
  | true =>
  cases B4 with
  | false =>
    obtain rfl : R = false := HR.out
    go_wp2_with (first
      | (go_at_call 45; refine (H0.out _).mono ?_; rintro e w2 ⟨rfl, hb2⟩; obtain ⟨_, d1, _, _, _, _, _, _, _⟩ := HCS.out _ hb2)
      | (go_at_call 46; refine (H1.out _ hb2).mono ?_; rintro e w3 ⟨rfl, hb3'⟩; have hb3 := bthen hb2 hb3'; obtain ⟨_, _, e2, _, _, _, _, _, _⟩ := HCS.out _ hb3)
      | (go_at_call 47; refine (H2.out _ hb3).mono ?_; rintro e w4 ⟨rfl, hb4'⟩; have hb4 := bthen hb3 hb4'; obtain ⟨_, _, _, f3, f4, f5, f6, _, _⟩ := HCS.out _ hb4)
      | (go_at_call 48; (with_reducible refine (H3.out _).mono ?_); rintro e w5 ⟨rfl, rfl⟩)
      | (go_at_call 48; (with_reducible refine (H4.out _).mono ?_); rintro e w5 ⟨rfl, rfl⟩))
    go_ret
    exact ⟨rfl, bthen HB.out hb4⟩
  | true =>
  cases B5 with
  | false =>
    obtain rfl : R = false := HR.out
    go_wp2_with (first
      | (go_at_call 45; refine (H0.out _).mono ?_; rintro e w2 ⟨rfl, hb2⟩; obtain ⟨_, d1, _, _, _, _, _, _, _⟩ := HCS.out _ hb2)
      | (go_at_call 46; refine (H1.out _ hb2).mono ?_; rintro e w3 ⟨rfl, hb3'⟩; have hb3 := bthen hb2 hb3'; obtain ⟨_, _, e2, _, _, _, _, _, _⟩ := HCS.out _ hb3)
      | (go_at_call 47; refine (H2.out _ hb3).mono ?_; rintro e w4 ⟨rfl, hb4'⟩; have hb4 := bthen hb3 hb4'; obtain ⟨_, _, _, f3, f4, f5, f6, _, _⟩ := HCS.out _ hb4)
      | (go_at_call 48; (with_reducible refine (H3.out _).mono ?_); rintro e w5 ⟨rfl, rfl⟩)
      | (go_at_call 48; (with_reducible refine (H4.out _).mono ?_); rintro e w5 ⟨rfl, rfl⟩)
      | (go_at_call 48; (with_reducible refine (H5.out _).mono ?_); rintro e w5 ⟨rfl, rfl⟩))
    go_ret
    exact ⟨rfl, bthen HB.out hb4⟩
  | true =>
    obtain rfl : R = (B6 && D) := HR.out
    cases B6
    all_goals go_wp2_with (first
      | (go_at_call 45; refine (H0.out _).mono ?_; rintro e w2 ⟨rfl, hb2⟩; obtain ⟨_, d1, _, _, _, _, _, _, _⟩ := HCS.out _ hb2)
      | (go_at_call 46; refine (H1.out _ hb2).mono ?_; rintro e w3 ⟨rfl, hb3'⟩; have hb3 := bthen hb2 hb3'; obtain ⟨_, _, e2, _, _, _, _, _, _⟩ := HCS.out _ hb3)
      | (go_at_call 47; refine (H2.out _ hb3).mono ?_; rintro e w4 ⟨rfl, hb4'⟩; have hb4 := bthen hb3 hb4'; obtain ⟨_, _, _, f3, f4, f5, f6, _, _⟩ := HCS.out _ hb4)
      | (go_at_call 48; (with_reducible refine (H3.out _).mono ?_); rintro e w5 ⟨rfl, rfl⟩)
      | (go_at_call 48; (with_reducible refine (H4.out _).mono ?_); rintro e w5 ⟨rfl, rfl⟩)
      | (go_at_call 48; (with_reducible refine (H5.out _).mono ?_); rintro e w5 ⟨rfl, rfl⟩)
      | (go_at_call 49; refine (H6.out _ hb4).mono ?_; rintro e w6 ⟨rfl, hb6'⟩; have hb6 := bthen hb4 hb6'; obtain ⟨_, _, _, _, _, _, _, _, g8⟩ := HCS.out _ hb6))
    all_goals
      go_ret
      exact ⟨by first | rfl | rw [h16], bthen HB.out hb6⟩
end Go.Proofs.YtolbhhokpelchabDoor
