/- The contract of outline.rightParts. -/
import Derived.Test.YtolbhhokpelchaaDoorOutB
import Derived.Outline
namespace Go.Proofs.YtolbhhokpelchaaDoor
open Go.RowKit

theorem Blk.cells4 {w : World} {g : Nat} {t : TypeId} {x y z u : Value} (h : Blk w g t #[x, y, z, u]) : w.cell? ⟨g, 0, none⟩ = some x ∧ w.cell? ⟨g, 1, none⟩ = some y ∧ w.cell? ⟨g, 2, none⟩ = some z ∧ w.cell? ⟨g, 3, none⟩ = some u :=
  ⟨h.cell 0, h.cell 1, h.cell 2, h.cell 3⟩
theorem emptyB (s : ByteArray) : (s.toList == []) = decide (s = .empty) := by
  have := strEq s .empty
  rw [show ByteArray.empty.toList = [] by rw [ByteArray.toList_eq]; rfl] at this
  exact this

set_option maxHeartbeats 6400000 in
set_option maxRecDepth 100000 in
theorem oParts_any (q : NdAt) (w : World) (h : q.head w) : Calls Tryd.prog 55 #[.agg (nCells q)] w (BoolW (partsC q.n) w) := by
  obtain ⟨⟨k, wd, ns, xs⟩, na, nc, ia, ic⟩ := q
  obtain ⟨hk, hs, hwf, hi, hic⟩ := h
  simp only [Nd.kind, Nd.word, Nd.names, Nd.items, nCells] at hk hs hwf hi hic ⊢
  have hb := (Below.refl w.heap.size w).alloc (Nat.le_refl _) (.cells #[.int .i64 k, .string wd, .slice na ns.length nc, .slice ia xs.length ic] 25)
  have hB := Blk.new w 25 #[.int .i64 k, .string wd, .slice na ns.length nc, .slice ia xs.length ic]
  have hk' := hk.call hb
  have HW := Lib.hid (fun W => oWord_any wd W hs)
  obtain ⟨A, hA⟩ : ∃ A, owC wd.data.toList = A := ⟨_, rfl⟩
  rw [hA] at HW
  have he := emptyB wd
  obtain ⟨E, hE⟩ : ∃ E, decide (wd = .empty) = E := ⟨_, rfl⟩
  rw [hE] at he
  have hP : partsC (.mk k wd ns xs) = (decide (k = 1) && (A && decide (ns.length = 0) && decide (xs.length = 0)) || decide (k = 2) && (E && decide (ns.length = 0) && decide (xs.length ≤ 64)) || decide (k = 3) && (E && decide (ns.length = xs.length) && namesC ns)) := by
    rw [partsC, ← hA, ← hE]; rfl
  obtain ⟨R, hR⟩ : ∃ R, partsC (.mk k wd ns xs) = R := ⟨_, rfl⟩
  rw [hR] at hP ⊢
  have HR := Lib.hid hP
  have l1 := hk.1
  have l2 := hk.2.1
  unfold maxLen at l2 hic
  clear hP hR hA hE hwf
  go_enter Tryd.func55, Tryd.ntmps55
  go_upto_region 1 with fail
  generalize w.alloc (.cells #[.int .i64 k, .string wd, .slice na ns.length nc, .slice ia xs.length ic] 25) = wx at *
  obtain ⟨c0, c1, c2, c3⟩ := hB.cells4
  have HN := Lib.hid (oNames_any _ _ _ wx hk')
  have HB := Lib.hid hb
  clear hk hs hk' hb hB
  by_cases k1 : k = 1
  · subst k1
    have HR2 : Hid (R = (A && decide (ns.length = 0) && decide (xs.length = 0))) := Lib.hid (by rw [HR.out]; simp)
    clear HR
    cases A <;> by_cases z1 : ns.length = 0 <;> by_cases z2 : xs.length = 0
    all_goals
      have hr := HR2.out
      first
        | rw [decide_eq_true z1, decide_eq_true z2] at hr
        | rw [decide_eq_true z1, decide_eq_false z2] at hr
        | rw [decide_eq_false z1, decide_eq_true z2] at hr
        | rw [decide_eq_false z1, decide_eq_false z2] at hr
      simp only [Bool.and_true, Bool.and_false, Bool.and_self] at hr
      subst hr
      clear HR2
      have f1 : ((ns.length : Int) == 0) = decide (ns.length = 0) := by
        first
          | rw [decide_eq_true z1, z1]; rfl
          | rw [decide_eq_false z1, beq_eq_false_iff_ne.2 (by omega)]
      have f2 : ((xs.length : Int) == 0) = decide (xs.length = 0) := by
        first
          | rw [decide_eq_true z2, z2]; rfl
          | rw [decide_eq_false z2, beq_eq_false_iff_ne.2 (by omega)]
      first
        | rw [decide_eq_true z1] at f1
        | rw [decide_eq_false z1] at f1
      first
        | rw [decide_eq_true z2] at f2
        | rw [decide_eq_false z2] at f2
      clear z1 z2 he
      go_wp2_with (go_at_call 71; refine (HW.out _).mono ?_; rintro e w2 ⟨rfl, rfl⟩)
      go_ret
      exact ⟨rfl, HB.out⟩
  have d1 : (k == 1) = false := beq_eq_false_iff_ne.2 k1
  by_cases k2 : k = 2
  · subst k2
    have HR2 : Hid (R = (E && decide (ns.length = 0) && decide (xs.length ≤ 64))) := Lib.hid (by rw [HR.out]; simp)
    clear HR k1
    cases E <;> by_cases z1 : ns.length = 0 <;> by_cases z2 : xs.length ≤ 64
    all_goals
      have hr := HR2.out
      first
        | rw [decide_eq_true z1, decide_eq_true z2] at hr
        | rw [decide_eq_true z1, decide_eq_false z2] at hr
        | rw [decide_eq_false z1, decide_eq_true z2] at hr
        | rw [decide_eq_false z1, decide_eq_false z2] at hr
      simp only [Bool.and_true, Bool.and_false, Bool.and_self] at hr
      subst hr
      clear HR2
      have f1 : ((ns.length : Int) == 0) = decide (ns.length = 0) := by
        first
          | rw [decide_eq_true z1, z1]; rfl
          | rw [decide_eq_false z1, beq_eq_false_iff_ne.2 (by omega)]
      first
        | rw [decide_eq_true z1] at f1
        | rw [decide_eq_false z1] at f1
      have f2 : decide ((xs.length : Int) ≤ 64) = decide (xs.length ≤ 64) := by
        first
          | rw [decide_eq_true z2, decide_eq_true (by omega)]
          | rw [decide_eq_false z2, decide_eq_false (by omega)]
      first
        | rw [decide_eq_true z2] at f2
        | rw [decide_eq_false z2] at f2
      clear z2
      clear z1
      go_wp2_with fail
      go_ret
      exact ⟨rfl, HB.out⟩
  have d2 : (k == 2) = false := beq_eq_false_iff_ne.2 k2
  by_cases k3 : k = 3
  · subst k3
    have HR2 : Hid (R = (E && decide (ns.length = xs.length) && namesC ns)) := Lib.hid (by rw [HR.out]; simp)
    obtain ⟨N, hN⟩ : ∃ N, namesC ns = N := ⟨_, rfl⟩
    rw [hN] at HN HR2
    clear HR k1 k2 hN
    cases E <;> cases N <;> by_cases z1 : ns.length = xs.length
    all_goals
      have hr := HR2.out
      first
        | rw [decide_eq_true z1] at hr
        | rw [decide_eq_false z1] at hr
      simp only [Bool.and_true, Bool.and_false, Bool.and_self] at hr
      subst hr
      clear HR2
      have f1 : ((ns.length : Int) == (xs.length : Int)) = decide (ns.length = xs.length) := by
        first
          | rw [decide_eq_true z1, z1]; simp
          | rw [decide_eq_false z1, beq_eq_false_iff_ne.2 (by omega)]
      first
        | rw [decide_eq_true z1] at f1
        | rw [decide_eq_false z1] at f1
      clear z1
      go_wp2_with (go_at_call 72; refine HN.out.mono ?_; rintro e w2 ⟨rfl, rfl⟩)
      go_ret
      exact ⟨rfl, HB.out⟩
  have d3 : (k == 3) = false := beq_eq_false_iff_ne.2 k3
  obtain rfl : R = false := by rw [HR.out, decide_eq_false k1, decide_eq_false k2, decide_eq_false k3]; rfl
  clear k1 k2 k3 HR
  go_wp2_with fail
  go_ret
  exact ⟨rfl, HB.out⟩
end Go.Proofs.YtolbhhokpelchaaDoor
