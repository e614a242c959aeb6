/- The contract of the document's own Like of layer 4. -/
import Derived.Test.YtmhehojjlacfoaaDoorMatB
import Derived.Test.YtmhehojjlacfoaaDoorSameR
namespace Go.Proofs.YtmhehojjlacfoaaDoor
open Go.RowKit Go.Maps

theorem name_beq (a b : ByteArray) : (a.toList == b.toList) = decide (a = b) := toList_eq_iff a b

set_option maxHeartbeats 3200000 in
set_option maxRecDepth 100000 in
theorem rLike_any (v v' : Value) (m m' : Mat) (w : World) (h : HasMat w v m) (h' : HasMat w v' m') : Calls Tryd.prog 26 #[v, v'] w (BoolB (likeM m m') w) := by
  obtain ⟨a, c, rfl, hW, hs, hwf⟩ := h
  obtain ⟨a', c', rfl, hW', hs', hwf'⟩ := h'
  have HE := Lib.hid (fun W (hb : Below w.heap.size w W) => same_any a a' c c' m.words m'.words W (hW.call hb) (hW'.call hb))
  have hb1 := Blk.new w 54 #[.string m.name, .int .i64 m.how, .slice a m.words.length c]
  have hb2 := hb1.alloc (.cells #[.string m'.name, .int .i64 m'.how, .slice a' m'.words.length c'] 54)
  have hb3 := Blk.new (w.alloc (.cells #[.string m.name, .int .i64 m.how, .slice a m.words.length c] 54)) 54 #[.string m'.name, .int .i64 m'.how, .slice a' m'.words.length c']
  have hbl := ((Below.refl _ w).alloc (Nat.le_refl _) (.cells #[.string m.name, .int .i64 m.how, .slice a m.words.length c] 54)).alloc (by simp) (.cells #[.string m'.name, .int .i64 m'.how, .slice a' m'.words.length c'] 54)
  have e1 : (w.alloc (.cells #[.string m.name, .int .i64 m.how, .slice a m.words.length c] 54)).heap.size = w.heap.size + 1 := by simp
  rw [e1] at hb3
  obtain ⟨x0, x1, x2⟩ := hb2.cells3
  obtain ⟨y0, y1, y2⟩ := hb3.cells3
  have X0 := Lib.hid x0
  have X1 := Lib.hid x1
  have X2 := Lib.hid x2
  have Y0 := Lib.hid y0
  have Y1 := Lib.hid y1
  have Y2 := Lib.hid y2
  have HB := Lib.hid hbl
  have e : likeM m m' = (decide (m.name = m'.name) && (decide (m.how = m'.how) && decide (m.words = m'.words))) := by rw [likeM, Bool.and_assoc]
  rw [e]
  have hq := name_beq m.name m'.name
  obtain ⟨D, hD⟩ : ∃ D, decide (m.words = m'.words) = D := ⟨_, rfl⟩
  rw [hD]
  rw [hD] at HE
  clear hW hW' hs hs' hwf hwf' hb1 hb2 hb3 hbl e1 e x0 x1 x2 y0 y1 y2 hD
  have x0 := X0.out
  have x1 := X1.out
  have x2 := X2.out
  have y0 := Y0.out
  have y1 := Y1.out
  have y2 := Y2.out
  clear X0 X1 X2 Y0 Y1 Y2
  by_cases h1 : m.name = m'.name
  · rw [decide_eq_true h1] at hq
    rw [decide_eq_true h1, Bool.true_and]
    clear h1
    by_cases h2 : m.how = m'.how
    · have h3 : (m.how == m'.how) = true := beq_iff_eq.2 h2
      rw [decide_eq_true h2, Bool.true_and]
      clear h2
      go_enter Tryd.func26, Tryd.ntmps26
      go_wp2_with (go_at_call 27; refine (HE.out _ HB.out).mono ?_; rintro e w2 ⟨rfl, hb2⟩)
      go_ret
      exact ⟨rfl, bthen HB.out hb2⟩
    · have h3 : (m.how == m'.how) = false := beq_eq_false_iff_ne.2 h2
      rw [decide_eq_false h2, Bool.false_and]
      clear h2
      go_enter Tryd.func26, Tryd.ntmps26
      go_wp2_with (go_at_call 27; refine (HE.out _ HB.out).mono ?_; rintro e w2 ⟨rfl, hb2⟩)
      go_ret
      exact ⟨rfl, HB.out⟩
  · rw [decide_eq_false h1] at hq
    rw [decide_eq_false h1, Bool.false_and]
    clear h1
    go_enter Tryd.func26, Tryd.ntmps26
    go_wp2_with (go_at_call 27; refine (HE.out _ HB.out).mono ?_; rintro e w2 ⟨rfl, hb2⟩)
    go_ret
    exact ⟨rfl, HB.out⟩
end Go.Proofs.YtmhehojjlacfoaaDoor
