/- The contract of the alive of layer 8. -/
import Derived.Test.YtjigdmmlgddgpabDoorRulD
import Derived.Test.YtjigdmmlgddgpabDoorRulE
import Derived.Test.YtjigdmmlgddgpabDoorLater
import Derived.BigQuiet
namespace Go.Proofs.YtjigdmmlgddgpabDoor
open Go.RowKit

def knownR : Rul := ⟨⟨#[114]⟩, ⟨#[109]⟩, 2, 5, 0, 0, 1, []⟩
theorem known_labs : alabsP knownR [] = ([(aName, ⟨#[114]⟩)], 0) := by decide +kernel
theorem known_f5 : firesC knownR 5 = true := by decide +kernel
theorem known_f4 : firesC knownR 4 = false := by decide +kernel

set_option maxHeartbeats 3200000 in
set_option maxRecDepth 100000 in
theorem alive_any (w : World) : Calls Tryd.prog 6 #[] w (BoolB true w) := by
  have hL : ∀ W : World, RulAt W knownR none 0 := fun W => ⟨HasLabs.nil _ _ _ (by unfold maxLen; omega), by unfold maxLen; decide, by unfold maxLen; decide⟩
  have h1 := fun W => labels_any knownR none none 0 0 [] W (hL W) (HasLabs.nil _ _ _ (by unfold maxLen; omega))
  have h2 : ∀ W, Calls Tryd.prog 15 #[.agg #[.string ⟨#[114]⟩, .string ⟨#[109]⟩, .int .i64 2, .int .i64 5, .int .i64 0, .int .i64 0, .int .i64 1, .slice none 0 0], .int .i64 5] W (BoolB (firesC knownR 5) W) := fun W => fires_any knownR none 0 5 W (hL W)
  have h3 : ∀ W, Calls Tryd.prog 15 #[.agg #[.string ⟨#[114]⟩, .string ⟨#[109]⟩, .int .i64 2, .int .i64 5, .int .i64 0, .int .i64 0, .int .i64 1, .slice none 0 0], .int .i64 4] W (BoolB (firesC knownR 4) W) := fun W => fires_any knownR none 0 4 W (hL W)
  rw [known_labs] at h1
  rw [known_f5] at h2
  rw [known_f4] at h3
  have H1 := Lib.hid h1
  have H2 := Lib.hid h2
  have H3 := Lib.hid h3
  have hb := (Below.refl w.heap.size w).alloc (Nat.le_refl _) (.cells #[.string ⟨#[114]⟩, .string ⟨#[109]⟩, .int .i64 2, .int .i64 5, .int .i64 0, .int .i64 0, .int .i64 1, .slice none 0 0] 24)
  have hB := Blk.new w 24 #[.string ⟨#[114]⟩, .string ⟨#[109]⟩, .int .i64 2, .int .i64 5, .int .i64 0, .int .i64 0, .int .i64 1, .slice none 0 0]
  clear h1 h2 h3 hL
  go_enter Tryd.func6, Tryd.ntmps6
  go_upto_region 2 with fail
  generalize w.alloc (.cells #[.string ⟨#[114]⟩, .string ⟨#[109]⟩, .int .i64 2, .int .i64 5, .int .i64 0, .int .i64 0, .int .i64 1, .slice none 0 0] 24) = wx at *
  obtain ⟨c0, c1, c2, c3, c4, c5, c6, c7⟩ := hB.cells8
  go_upto_region 3 with (go_at_call 14; refine (H1.out _).mono ?_; rintro e w2 ⟨x, y, rfl, hx, hb2⟩)
  obtain ⟨_, _, _, hl⟩ := hx
  rcases hl with h | ⟨b1, o1, rfl, hlt, hcs⟩
  · cases h
  have hcs := (hcs 0 (by decide)).2
  simp only [List.getElem_cons_zero, Nat.zero_mul, Nat.add_zero] at hcs
  have hB2 := hB.call hb2
  obtain ⟨c0, c1, c2, c3, c4, c5, c6, c7⟩ := hB2.cells8
  go_wp2_with (first
    | (go_at_call 15; (with_reducible refine (H2.out _).mono ?_); rintro e w3 ⟨rfl, hb3⟩; obtain ⟨d0, d1, d2, d3, d4, d5, d6, d7⟩ := (hB2.call hb3).cells8; have hcl := cellL hb3 hcs)
    | (go_at_call 15; (with_reducible refine (H3.out _).mono ?_); rintro e w4 ⟨rfl, hb4⟩; have hcm := cellL hb4 hcl))
  go_ret
  exact ⟨rfl, bthen hb (bthen hb2 (bthen hb3 hb4))⟩
end Go.Proofs.YtjigdmmlgddgpabDoor
