/- The contract of rules.Labels. -/
import Derived.Test.YtjigdmmlgddgpabDoorRulB
import Derived.Test.YtjigdmmlgddgpabDoorLabX
namespace Go.Proofs.YtjigdmmlgddgpabDoor
open Go.RowKit

theorem one_lab (w : World) (s t : ByteArray) (hs : s.size ≤ maxLen) (ht : t.size ≤ maxLen) : HasLabs (w.alloc (.cells #[.string s, .string t] 48)) (some ⟨w.heap.size, 0, none⟩) 1 [(s, t)] := by
  have hB := Blk.new w 48 #[.string s, .string t]
  refine ⟨Nat.le_refl _, by unfold maxLen; omega, fun l hl => ?_, .inr ⟨_, _, rfl, hB.lt, fun i hi => ?_⟩⟩
  · obtain rfl : l = (s, t) := by simpa using hl
    exact ⟨hs, ht⟩
  · obtain rfl : i = 0 := by simpa using hi
    exact ⟨hB.cell 0, hB.cell 1⟩

set_option maxHeartbeats 3200000 in
set_option maxRecDepth 100000 in
theorem labels_any (r : Rul) (a a' : Option Addr) (c c' : Nat) (ls : List Lab) (w : World) (h : RulAt w r a c) (h' : HasLabs w a' c' ls) :
    Calls Tryd.prog 14 #[.agg (rCells r a c), .slice a' ls.length c'] w (LabsE (alabsP r ls).1 (alabsP r ls).2 w) := by
  have HR := Lib.hid (fun W (h : RulAt W r a c) => rulRight_any r a c W h)
  have hb := (Below.refl w.heap.size w).alloc (Nat.le_refl _) (.cells (rCells r a c) 24)
  have hB := Blk.new w 24 (rCells r a c)
  have hA := h.call hb
  have hL := h'.call hb
  have hW := fun V (h1 : HasLabs V a' c' ls) (h2 : HasLabs V a c r.labels) => with_any a' a c' c ls r.labels V h1 h2
  have hW2 := fun V x y (l1 : List Lab) (h1 : HasLabs V x y l1) b o => fun (h2 : HasLabs V b o [(aName, r.name)]) => with_any x b y o l1 [(aName, r.name)] V h1 h2
  have hn := h.2.1
  have HO := Lib.hid (fun W => one_lab W aName r.name (by show 5 ≤ maxLen; unfold maxLen; omega) hn)
  obtain ⟨R, hR⟩ : ∃ R, alabsP r ls = R := ⟨_, rfl⟩
  rw [hR]
  unfold alabsP at hR
  obtain ⟨⟨l1, n1⟩, hP⟩ : ∃ R, withP ls r.labels = R := ⟨_, rfl⟩
  rw [hP] at hR hW
  simp only at hR hW
  have HQ := Lib.hid hR
  have HW := Lib.hid hW
  have HW2 := Lib.hid hW2
  clear hR h h' hW hP hn hW2
  obtain ⟨n, m, k, l, f, p, t, ll⟩ := r
  simp only [rCells] at *
  go_enter Tryd.func14, Tryd.ntmps14
  go_upto_region 1 with fail
  generalize w.alloc (.cells #[.string n, .string m, .int .i64 k, .int .i64 l, .int .i64 f, .int .i64 p, .int .i64 t, .slice a ll.length c] 24) = wx at *
  obtain ⟨c0, c1, c2, c3, c4, c5, c6, c7⟩ := hB.cells8
  cases hr : rulC ⟨n, m, k, l, f, p, t, ll⟩ with
  | false =>
    rw [hr] at HR
    have hq := HQ.out
    rw [hr, if_neg (by simp)] at hq
    subst hq
    clear hr HQ
    go_wp2_with (go_at_call 10; (with_reducible refine (HR.out _ hA).mono ?_); rintro e w2 ⟨rfl, hb2⟩)
    go_ret2
    exact labsE_nil (bthen hb hb2)
  | true =>
    rw [hr] at HR
    have hq := HQ.out
    rw [hr, if_pos rfl] at hq
    clear hr HQ
    by_cases hn1 : n1 = 0
    · subst hn1
      rw [if_pos rfl] at hq
      have HQ := Lib.hid hq
      clear hq
      go_wp2_with (first
        | (go_at_call 10; (with_reducible refine (HR.out _ hA).mono ?_); rintro e w2 ⟨rfl, hb2⟩; have hB2 := hB.call hb2; have hL2 := hL.call hb2; have hA2 := hA.1.call hb2; have hq2 := bthen hb hb2; obtain ⟨d0, d1, d2, d3, d4, d5, d6, d7⟩ := hB2.cells8)
        | (go_at_call 27; (with_reducible refine (HW.out _ hL2 hA2).mono ?_); rintro e w3 ⟨x, y, rfl, hx, hb3⟩; have hB3 := hB2.call hb3; have hq3 := bthen hq2 hb3; obtain ⟨e0, e1, e2, e3, e4, e5, e6, e7⟩ := hB3.cells8)
        | (go_at_call 27; refine (HW2.out _ x y l1 (hx.call ((Below.refl _ _).alloc (Nat.le_refl _) _)) _ _ (HO.out _)).mono ?_; rintro e w4 ⟨x2, y2, rfl, hx2, hb4⟩))
      go_ret2
      rw [← HQ.out]
      exact ⟨_, _, rfl, hx2, bthen hq3 (bthen ((Below.refl _ _).alloc (Nat.le_refl _) _) hb4)⟩
    · rw [if_neg hn1] at hq
      subst hq
      have hne : (n1 != 0) = true := by simpa using hn1
      go_wp2_with (first
        | (go_at_call 10; (with_reducible refine (HR.out _ hA).mono ?_); rintro e w2 ⟨rfl, hb2⟩; have hB2 := hB.call hb2; have hL2 := hL.call hb2; have hA2 := hA.1.call hb2; have hq2 := bthen hb hb2; obtain ⟨d0, d1, d2, d3, d4, d5, d6, d7⟩ := hB2.cells8)
        | (go_at_call 27; (with_reducible refine (HW.out _ hL2 hA2).mono ?_); rintro e w3 ⟨x, y, rfl, hx, hb3⟩; have hB3 := hB2.call hb3; have hq3 := bthen hq2 hb3; obtain ⟨e0, e1, e2, e3, e4, e5, e6, e7⟩ := hB3.cells8))
      go_ret2
      exact labsE_nil hq3
end Go.Proofs.YtjigdmmlgddgpabDoor
