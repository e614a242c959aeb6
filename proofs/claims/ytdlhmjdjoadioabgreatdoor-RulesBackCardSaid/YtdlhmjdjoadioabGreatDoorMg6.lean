/- The contract of rules.Labels. -/
import Derived.Test.YtdlhmjdjoadioabGreatDoorZRulB
import Derived.Test.YtdlhmjdjoadioabGreatDoorZLabX
import Derived.Test.YtdlhmjdjoadioabGreatDoorZRulD
import Derived.Test.YtdlhmjdjoadioabGreatDoorZLater
import Derived.BigQuiet
namespace Go.Proofs.YtdlhmjdjoadioabGreatDoor
open Go.RowKit

theorem one_lab (w : World) (s t : ByteArray) (hs : s.size ≤ maxLen) (ht : t.size ≤ maxLen) : HasLabs (w.alloc (.cells #[.string s, .string t] 60)) (some ⟨w.heap.size, 0, none⟩) 1 [(s, t)] := by
  have hB := Blk.new w 60 #[.string s, .string t]
  refine ⟨Nat.le_refl _, by unfold maxLen; omega, fun l hl => ?_, .inr ⟨_, _, rfl, hB.lt, fun i hi => ?_⟩⟩
  · obtain rfl : l = (s, t) := by simpa using hl
    exact ⟨hs, ht⟩
  · obtain rfl : i = 0 := by simpa using hi
    exact ⟨hB.cell 0, hB.cell 1⟩

set_option maxHeartbeats 3200000 in
set_option maxRecDepth 100000 in
theorem labels_any (r : Rul) (a a' : Option Addr) (c c' : Nat) (ls : List Lab) (w : World) (h : RulAt w r a c) (h' : HasLabs w a' c' ls) :
    Calls Tryz.prog 29 #[.agg (rCells r a c), .slice a' ls.length c'] w (LabsE (alabsP r ls).1 (alabsP r ls).2 w) := by
  have HR := Lib.hid (fun W (h : RulAt W r a c) => rulRight_any r a c W h)
  have hb := (Below.refl w.heap.size w).alloc (Nat.le_refl _) (.cells (rCells r a c) 24)
  have hB := Blk.new w 24 (rCells r a c)
  have hA := h.call hb
  have hL := h'.call hb
  have hW := fun V (h1 : HasLabs V a' c' ls) (h2 : HasLabs V a c r.labels) => with_any a' a c' c ls r.labels V h1 h2
  have hW2 := fun V x y (l1 : List Lab) (h1 : HasLabs V x y l1) b o => fun (h2 : HasLabs V b o [(aName, r.name)]) => with_any x b y o l1 [(aName, r.name)] V h1 h2
  have hn := h.2.1
  have HO := Lib.hid (fun W => one_lab W aName r.name (by show 5 ≤ maxLen; unfold maxLen; omega) hn)
  obtain ⟨R, hR⟩ : ∃ R, alabsP r ls = R := ⟨_, rfl⟩
  rw [hR]
  unfold alabsP at hR
  obtain ⟨⟨l1, n1⟩, hP⟩ : ∃ R, withP ls r.labels = R := ⟨_, rfl⟩
  rw [hP] at hR hW
  simp only at hR hW
  have HQ := Lib.hid hR
  have HW := Lib.hid hW
  have HW2 := Lib.hid hW2
  clear hR h h' hW hP hn hW2
  obtain ⟨n, m, k, l, f, p, t, ll⟩ := r
  simp only [rCells] at *
  go_enter Tryz.func29, Tryz.ntmps29
  go_upto_region 1 with fail
  generalize w.alloc (.cells #[.string n, .string m, .int .i64 k, .int .i64 l, .int .i64 f, .int .i64 p, .int .i64 t, .slice a ll.length c] 24) = wx at *
  obtain ⟨c0, c1, c2, c3, c4, c5, c6, c7⟩ := hB.cells8
  cases hr : rulC ⟨n, m, k, l, f, p, t, ll⟩ with
  | false =>
    rw [hr] at HR
    have hq := HQ.out
    rw [hr, if_neg (by simp)] at hq
    subst hq
    clear hr HQ
    go_wp2_with (go_at_call 16; (with_reducible refine (HR.out _ hA).mono ?_); rintro e w2 ⟨rfl, hb2⟩)
    go_ret2
    exact labsE_nil (bthen hb hb2)
  | true =>
    rw [hr] at HR
    have hq := HQ.out
    rw [hr, if_pos rfl] at hq
    clear hr HQ
    by_cases hn1 : n1 = 0
    · subst hn1
      rw [if_pos rfl] at hq
      have HQ := Lib.hid hq
      clear hq
      go_wp2_with (first
        | (go_at_call 16; (with_reducible refine (HR.out _ hA).mono ?_); rintro e w2 ⟨rfl, hb2⟩; have hB2 := hB.call hb2; have hL2 := hL.call hb2; have hA2 := hA.1.call hb2; have hq2 := bthen hb hb2; obtain ⟨d0, d1, d2, d3, d4, d5, d6, d7⟩ := hB2.cells8)
        | (go_at_call 51; (with_reducible refine (HW.out _ hL2 hA2).mono ?_); rintro e w3 ⟨x, y, rfl, hx, hb3⟩; have hB3 := hB2.call hb3; have hq3 := bthen hq2 hb3; obtain ⟨e0, e1, e2, e3, e4, e5, e6, e7⟩ := hB3.cells8)
        | (go_at_call 51; refine (HW2.out _ x y l1 (hx.call ((Below.refl _ _).alloc (Nat.le_refl _) _)) _ _ (HO.out _)).mono ?_; rintro e w4 ⟨x2, y2, rfl, hx2, hb4⟩))
      go_ret2
      rw [← HQ.out]
      exact ⟨_, _, rfl, hx2, bthen hq3 (bthen ((Below.refl _ _).alloc (Nat.le_refl _) _) hb4)⟩
    · rw [if_neg hn1] at hq
      subst hq
      have hne : (n1 != 0) = true := by simpa using hn1
      go_wp2_with (first
        | (go_at_call 16; (with_reducible refine (HR.out _ hA).mono ?_); rintro e w2 ⟨rfl, hb2⟩; have hB2 := hB.call hb2; have hL2 := hL.call hb2; have hA2 := hA.1.call hb2; have hq2 := bthen hb hb2; obtain ⟨d0, d1, d2, d3, d4, d5, d6, d7⟩ := hB2.cells8)
        | (go_at_call 51; (with_reducible refine (HW.out _ hL2 hA2).mono ?_); rintro e w3 ⟨x, y, rfl, hx, hb3⟩; have hB3 := hB2.call hb3; have hq3 := bthen hq2 hb3; obtain ⟨e0, e1, e2, e3, e4, e5, e6, e7⟩ := hB3.cells8))
      go_ret2
      exact labsE_nil hq3
end Go.Proofs.YtdlhmjdjoadioabGreatDoor
/- The contract of the alive of layer 8. -/
namespace Go.Proofs.YtdlhmjdjoadioabGreatDoor
open Go.RowKit

def knownR : Rul := ⟨⟨#[114]⟩, ⟨#[109]⟩, 2, 5, 0, 0, 1, []⟩
theorem known_labs : alabsP knownR [] = ([(aName, ⟨#[114]⟩)], 0) := by decide +kernel
theorem known_f5 : firesC knownR 5 = true := by decide +kernel
theorem known_f4 : firesC knownR 4 = false := by decide +kernel

set_option maxHeartbeats 3200000 in
set_option maxRecDepth 100000 in
theorem alive_any (w : World) : Calls Tryz.prog 11 #[] w (BoolB true w) := by
  have hL : ∀ W : World, RulAt W knownR none 0 := fun W => ⟨HasLabs.nil _ _ _ (by unfold maxLen; omega), by unfold maxLen; decide, by unfold maxLen; decide⟩
  have h1 := fun W => labels_any knownR none none 0 0 [] W (hL W) (HasLabs.nil _ _ _ (by unfold maxLen; omega))
  have h2 : ∀ W, Calls Tryz.prog 30 #[.agg #[.string ⟨#[114]⟩, .string ⟨#[109]⟩, .int .i64 2, .int .i64 5, .int .i64 0, .int .i64 0, .int .i64 1, .slice none 0 0], .int .i64 5] W (BoolB (firesC knownR 5) W) := fun W => fires_any knownR none 0 5 W (hL W)
  have h3 : ∀ W, Calls Tryz.prog 30 #[.agg #[.string ⟨#[114]⟩, .string ⟨#[109]⟩, .int .i64 2, .int .i64 5, .int .i64 0, .int .i64 0, .int .i64 1, .slice none 0 0], .int .i64 4] W (BoolB (firesC knownR 4) W) := fun W => fires_any knownR none 0 4 W (hL W)
  rw [known_labs] at h1
  rw [known_f5] at h2
  rw [known_f4] at h3
  have H1 := Lib.hid h1
  have H2 := Lib.hid h2
  have H3 := Lib.hid h3
  have hb := (Below.refl w.heap.size w).alloc (Nat.le_refl _) (.cells #[.string ⟨#[114]⟩, .string ⟨#[109]⟩, .int .i64 2, .int .i64 5, .int .i64 0, .int .i64 0, .int .i64 1, .slice none 0 0] 24)
  have hB := Blk.new w 24 #[.string ⟨#[114]⟩, .string ⟨#[109]⟩, .int .i64 2, .int .i64 5, .int .i64 0, .int .i64 0, .int .i64 1, .slice none 0 0]
  clear h1 h2 h3 hL
  go_enter Tryz.func11, Tryz.ntmps11
  go_upto_region 2 with fail
  generalize w.alloc (.cells #[.string ⟨#[114]⟩, .string ⟨#[109]⟩, .int .i64 2, .int .i64 5, .int .i64 0, .int .i64 0, .int .i64 1, .slice none 0 0] 24) = wx at *
  obtain ⟨c0, c1, c2, c3, c4, c5, c6, c7⟩ := hB.cells8
  go_upto_region 3 with (go_at_call 29; refine (H1.out _).mono ?_; rintro e w2 ⟨x, y, rfl, hx, hb2⟩)
  obtain ⟨_, _, _, hl⟩ := hx
  rcases hl with h | ⟨b1, o1, rfl, hlt, hcs⟩
  · cases h
  have hcs := (hcs 0 (by decide)).2
  simp only [List.getElem_cons_zero, Nat.zero_mul, Nat.add_zero] at hcs
  have hB2 := hB.call hb2
  obtain ⟨c0, c1, c2, c3, c4, c5, c6, c7⟩ := hB2.cells8
  go_wp2_with (first
    | (go_at_call 30; (with_reducible refine (H2.out _).mono ?_); rintro e w3 ⟨rfl, hb3⟩; obtain ⟨d0, d1, d2, d3, d4, d5, d6, d7⟩ := (hB2.call hb3).cells8; have hcl := cellL hb3 hcs)
    | (go_at_call 30; (with_reducible refine (H3.out _).mono ?_); rintro e w4 ⟨rfl, hb4⟩; have hcm := cellL hb4 hcl))
  go_ret
  exact ⟨rfl, bthen hb (bthen hb2 (bthen hb3 hb4))⟩
end Go.Proofs.YtdlhmjdjoadioabGreatDoor
