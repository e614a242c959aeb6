/- The walk of the statement HoursNext: the next tick at which hours begin, or end, is the least one behind; where there is none all the week is the same, or time ends. -/
import Derived.Test.YtekcmgajjbdmgabDoorHrsH
import Derived.Test.YtekcmgajjbdmgabDoorHrsC
import Derived.Test.YtekcmgajjbdmgabDoorHoursCountW
import Derived.Outline
namespace Go.Proofs.YtekcmgajjbdmgabDoor
open Go.RowKit

theorem tick_q0 (x q : Nat) (hq : x / 60000 = q) : (x : Int) / 60000 = (q : Int) := by omega
theorem tick_ql (x q : Nat) (hx : x ≤ 1099511627776) (hq : x / 60000 = q) : q ≤ 18325194 := by omega
theorem tick_yi (q bk y : Nat) (h : (q + bk) * 60000 = y) : ((q : Int) + (bk : Int)) * 60000 = (y : Int) := by omega
theorem tick_yl (q bk y : Nat) (hq : q ≤ 18325194) (hb : bk < 10080) (h : (q + bk) * 60000 = y) : y ≤ 1200000000000 := by omega
theorem tick_mod (y : Nat) (h : y % 60000 = 0) : ((y : Int)).tmod 60000 = 0 ∧ (y : Int) % 60000 = 0 := by
  constructor
  · rw [Int.tmod_eq_emod_of_nonneg (by omega)]; omega
  · omega
theorem far_y (y : Nat) (h : ¬ y ≤ 1099511627776) : (1099511627776 : Int) < (y : Int) := by omega
theorem near_y (y : Nat) (h : y ≤ 1099511627776) : ¬ (1099511627776 : Int) < (y : Int) := by omega
set_option maxHeartbeats 6400000 in
set_option maxRecDepth 100000 in
theorem hoursNext_walk {w : World} (n : ByteArray) (d f t : Int) (wn : n.size ≤ maxLen) (_wd : (Lit.int .i64 d).wf = true) (_wf : (Lit.int .i64 f).wf = true) (_wt : (Lit.int .i64 t).wf = true) (x : Int) (_wx : (Lit.int .i64 x).wf = true) (btw : Int) (_wb : (Lit.int .i64 btw).wf = true) (hw : HW w) :
    Calls Tryd.prog 6 #[.agg #[.string n, .int .i64 d, .int .i64 f, .int .i64 t], .int .i64 x, .int .i64 btw] w (BoolW true w) := by
  have hcut := fun W => cut7_any n d f t W wn
  have hcz := cut7_size n
  generalize cut7 n = N at *
  have HAL := Lib.hid (fun W (h : Below w.heap.size w W) => alive_any W (hw.call h))
  have hR := fun W => hRight_any N d f t W hcz
  have hN := fun W => hNext_any N d f t x W hcz
  have HI := Lib.hid (fun W x => hIn_any N d f t x W hcz)
  clear hw wn _wd _wf _wt _wx _wb
  have hk0 := Blk.new w 33 #[.string n, .int .i64 d, .int .i64 f, .int .i64 t]
  have hb0 := (Below.refl w.heap.size w).alloc (Nat.le_refl _) (.cells #[.string n, .int .i64 d, .int .i64 f, .int .i64 t] 33)
  unfold nextI NextP at hN
  by_cases hr : (bwC N.data.toList && spanC d f t && tickC x) = true
  case neg =>
    rw [if_neg hr] at hN
    have hN' := fun W => (hN W).mono (R' := fun e w' => e = .returned (.tuple #[.int .i64 0, .int .i64 1]) ∧ Below W.heap.size W w') (fun _ _ h => h)
    have HN := Lib.hid hN'
    have hcase : (bwC N.data.toList && spanC d f t) = false ∨ ((bwC N.data.toList && spanC d f t) = true ∧ x < 0) ∨ ((bwC N.data.toList && spanC d f t) = true ∧ ¬ x < 0 ∧ decide ((1099511627776 : Int) < x) = true) := by
      cases h : bwC N.data.toList && spanC d f t with
      | false => exact .inl rfl
      | true =>
        rw [h, Bool.true_and] at hr
        unfold tickC at hr
        rw [decide_eq_true_eq] at hr
        by_cases hx : x < 0
        · exact .inr (.inl ⟨rfl, hx⟩)
        · exact .inr (.inr ⟨rfl, hx, decide_eq_true (by omega)⟩)
    generalize (bwC N.data.toList && spanC d f t) = B at *
    have HR := Lib.hid hR
    clear hN hN' hR hr HI
    rcases hcase with rfl | ⟨rfl, hx⟩ | ⟨rfl, hx, hx2⟩
    all_goals
      go_enter Tryd.func6, Tryd.ntmps6
      go_upto_region 2 with (go_at_call 13; (with_reducible refine (hcut _).mono ?_); rintro e w2 ⟨rfl, hb2⟩; have hk2 := hk0.call hb2; obtain ⟨c0, c1, c2, c3⟩ := hk2.cells4; have f0 := hk2.frozen 0; have f1 := hk2.frozen 1; have f2 := hk2.frozen 2; have f3 := hk2.frozen 3)
      have hkx := hk2.set4 (.string N) (.int .i64 d) (.int .i64 f) (.int .i64 t)
      have hbx := below_set4 (bthen hb0 hb2) (Nat.le_refl _) (.string N) (.int .i64 d) (.int .i64 f) (.int .i64 t)
      generalize (((w2.setCell ⟨w.heap.size, 0, none⟩ (.string N)).setCell ⟨w.heap.size, 1, none⟩ (.int .i64 d)).setCell ⟨w.heap.size, 2, none⟩ (.int .i64 f)).setCell ⟨w.heap.size, 3, none⟩ (.int .i64 t) = wx at *
      clear hk2 hb2 c0 c1 c2 c3 f0 f1 f2 f3
      obtain ⟨c0, c1, c2, c3⟩ := hkx.cells4
      have HK := Lib.hid hkx
      have HB := Lib.hid hbx
      clear hkx hbx
      go_wp2_with (first
        | (go_at_call 23; (with_reducible refine (HN.out _).mono ?_); rintro e w3 ⟨rfl, hb3⟩; obtain ⟨k0, k1, k2, k3⟩ := (HK.out.call hb3).cells4)
        | (go_at_call 17; (with_reducible refine (HR.out _).mono ?_); rintro e w4 ⟨rfl, hb4⟩; have hb4' := bthen hb3 hb4)
        | (go_at_call 21; (with_reducible refine (HAL.out _ (bthen HB.out hb4')).mono ?_); rintro e w5 ⟨rfl, hb5⟩))
      go_ret
      exact ⟨rfl, bthen HB.out (bthen hb4' hb5)⟩
  case pos =>
    rw [if_pos hr] at hN
    rw [Bool.and_eq_true] at hr
    obtain ⟨hr, ht⟩ := hr
    rw [hr] at hR
    have hr0 := hr
    rw [Bool.and_eq_true] at hr
    have hs := hr.2
    unfold spanC at hs
    have ht0 := ht
    unfold tickC at ht
    rw [decide_eq_true_eq] at hs ht
    obtain ⟨d, rfl⟩ := Int.eq_ofNat_of_zero_le (show 0 ≤ d by omega)
    obtain ⟨f, rfl⟩ := Int.eq_ofNat_of_zero_le (show 0 ≤ f by omega)
    obtain ⟨t, rfl⟩ := Int.eq_ofNat_of_zero_le (show 0 ≤ t by omega)
    obtain ⟨x, rfl⟩ := Int.eq_ofNat_of_zero_le (show 0 ≤ x by omega)
    simp only [Int.toNat_natCast] at hN
    have hft : f < t := by omega
    have ht' : t ≤ 1440 := by omega
    have hxl : x ≤ 1099511627776 := by omega
    have hIn : ∀ W (y : Nat), y ≤ 1099511627776 → Calls Tryd.prog 19 #[.agg #[.string N, .int .i64 (d : Int), .int .i64 (f : Int), .int .i64 (t : Int)], .int .i64 (y : Int)] W (BoolW (inR d f t y) W) := by
      intro W y hy
      have h := HI.out W (y : Int)
      unfold inT at h
      have e : tickC (y : Int) = true := by unfold tickC; rw [decide_eq_true_eq]; omega
      rw [e, hr0, Bool.true_and, Bool.true_and, Int.toNat_natCast] at h
      exact h
    have hx1 : decide ((1099511627776 : Int) < (x : Int)) = false := decide_eq_false (by omega)
    have HIN := Lib.hid hIn
    have HR := Lib.hid hR
    clear HI hR hr hr0 hs ht ht0 hIn
    cases hnx : nextT d f t x with
    | none =>
      rw [hnx] at hN
      have hN' := fun W => (hN W).mono (R' := fun e w' => e = .returned (.tuple #[.int .i64 0, .int .i64 9]) ∧ Below W.heap.size W w') (fun _ _ h => h)
      have HN := Lib.hid hN'
      obtain ⟨T, bk, hT0, hT10, hT20, hb10, hbl⟩ := tmod_parts btw 10080 (by omega)
      have hT : btw.tmod 10080 = T := hT0
      have hT1 : -10080 < T := hT10
      have hT2 : T < 10080 := hT20
      have hbk : (T + 10080).tmod 10080 = (bk : Int) := hb10
      clear hT0 hT10 hT20 hb10 hN hN'
      have hno := next_none hft ht' hnx bk hbl
      generalize hq : x / 60000 = q at hno
      have hqi : wrap64 ((x : Int) / 60000) = (q : Int) := tick_q1 x q hxl hq
      have hqi2 := tick_q0 x q hq
      have hql := tick_ql x q hxl hq
      generalize hy : (q + bk) * 60000 = y at hno
      have hyi := tick_yi q bk y hy
      have hyl := tick_yl q bk y hql hbl hy
      have hin1 := fun W => HIN.out W x hxl
      have hin2 := fun W h => HIN.out W y h
      have hcase : y < x ∨ (¬ y < x ∧ ¬ y ≤ 1099511627776) ∨ (¬ y < x ∧ y ≤ 1099511627776 ∧ inR d f t y = inR d f t x) := by
        by_cases a : y < x
        · exact .inl a
        · by_cases b : y ≤ 1099511627776
          · exact .inr (.inr ⟨a, b, hno (Nat.le_of_not_lt a) b⟩)
          · exact .inr (.inl ⟨a, b⟩)
      generalize inR d f t x = I at *
      generalize inR d f t y = J at *
      have H1 := Lib.hid hin1
      have H2 := Lib.hid hin2
      have HC := Lib.hid hcase
      clear hno hq hy hin1 hin2 hcase hnx HIN
      go_enter Tryd.func6, Tryd.ntmps6
      go_upto_region 2 with (go_at_call 13; (with_reducible refine (hcut _).mono ?_); rintro e w2 ⟨rfl, hb2⟩; have hk2 := hk0.call hb2; obtain ⟨c0, c1, c2, c3⟩ := hk2.cells4; have f0 := hk2.frozen 0; have f1 := hk2.frozen 1; have f2 := hk2.frozen 2; have f3 := hk2.frozen 3)
      have hkx := hk2.set4 (.string N) (.int .i64 (d : Int)) (.int .i64 (f : Int)) (.int .i64 (t : Int))
      have hbx := below_set4 (bthen hb0 hb2) (Nat.le_refl _) (.string N) (.int .i64 (d : Int)) (.int .i64 (f : Int)) (.int .i64 (t : Int))
      generalize (((w2.setCell ⟨w.heap.size, 0, none⟩ (.string N)).setCell ⟨w.heap.size, 1, none⟩ (.int .i64 (d : Int))).setCell ⟨w.heap.size, 2, none⟩ (.int .i64 (f : Int))).setCell ⟨w.heap.size, 3, none⟩ (.int .i64 (t : Int)) = wx at *
      clear hk2 hb2 c0 c1 c2 c3 f0 f1 f2 f3
      obtain ⟨c0, c1, c2, c3⟩ := hkx.cells4
      have HK := Lib.hid hkx
      have HB := Lib.hid hbx
      clear hkx hbx
      go_upto_region 9 with (first
        | (go_at_call 23; (with_reducible refine (HN.out _).mono ?_); rintro e w3 ⟨rfl, hb3⟩; obtain ⟨k0, k1, k2, k3⟩ := (HK.out.call hb3).cells4)
        | (go_at_call 17; (with_reducible refine (HR.out _).mono ?_); rintro e w4 ⟨rfl, hb4⟩; have hb4' := bthen hb3 hb4; obtain ⟨l0, l1, l2, l3⟩ := (HK.out.call hb4').cells4)
        | (go_at_call 19; (with_reducible refine (H1.out _).mono ?_); rintro e w5 ⟨rfl, hb5⟩; have hb5' := bthen hb4' hb5))
      rcases HC.out with h | ⟨h1, h2⟩ | ⟨h1, h2, rfl⟩
      · go_wp2_with (go_at_call 21; (with_reducible refine (HAL.out _ (bthen HB.out hb5')).mono ?_); rintro e w6 ⟨rfl, hb6⟩)
        go_ret
        exact ⟨rfl, bthen HB.out (bthen hb5' hb6)⟩
      · have h3 : decide ((1099511627776 : Int) < (y : Int)) = true := decide_eq_true (far_y y h2)
        go_wp2_with (go_at_call 21; (with_reducible refine (HAL.out _ (bthen HB.out hb5')).mono ?_); rintro e w6 ⟨rfl, hb6⟩)
        go_ret
        exact ⟨rfl, bthen HB.out (bthen hb5' hb6)⟩
      · have h3 : decide ((1099511627776 : Int) < (y : Int)) = false := decide_eq_false (near_y y h2)
        have H3 := Lib.hid (fun W => H2.out W h2)
        clear h2
        cases J
        all_goals
          go_wp2_with (first
            | (go_at_call 21; (with_reducible refine (HAL.out _ (bthen HB.out hb5')).mono ?_); rintro e w6 ⟨rfl, hb6⟩; have hb6' := bthen hb5' hb6; obtain ⟨m0, m1, m2, m3⟩ := (HK.out.call hb6').cells4)
            | (go_at_call 19; (with_reducible refine (H3.out _).mono ?_); rintro e w7 ⟨rfl, hb7⟩))
          go_ret
          exact ⟨rfl, bthen HB.out (bthen hb6' hb7)⟩
    | some y =>
      rw [hnx] at hN
      have hN' := fun W => (hN W).mono (R' := fun e w' => e = .returned (.tuple #[.int .i64 (y : Int), .int .i64 0]) ∧ Below W.heap.size W w') (fun _ _ h => h)
      have HN := Lib.hid hN'
      obtain ⟨y1, y2, y3, y4, y5⟩ := next_some hft ht' hnx
      obtain ⟨M, hM⟩ : ∃ M, y - x = M := ⟨_, rfl⟩
      have hMi : (y : Int) - (x : Int) = (M : Int) := by omega
      have e1 := y5 (y - 1) (by omega) (by omega)
      have hle : ¬ ((y : Int) ≤ (x : Int)) := by omega
      have hlt : ¬ (y ≤ x) := by omega
      obtain ⟨hmod, hmod2⟩ := tick_mod y y3
      have hM0 : ¬ ((M : Int) = 0) := by omega
      have hML : 1 ≤ M ∧ M ≤ 1099511627776 := by omega
      have hy1 : ((y - 1 : Nat) : Int) = (y : Int) - 1 := by omega
      have hy2 : y - 1 ≤ 1099511627776 := by omega
      have hzz : ∀ r, r < M → x ≤ x + r ∧ x + r < y ∧ x + r ≤ 1099511627776 := fun r h => by omega
      obtain ⟨T, r, hT, hT1, hT2, hr, hrl⟩ := tmod_parts btw M hML.1
      obtain ⟨z0, z1, z2⟩ := hzz r hrl
      have e2 := y5 (x + r) z0 z1
      have hi1 := fun W => HIN.out W x hxl
      have hi2 := fun W => HIN.out W y y2
      have hi3 := fun W => HIN.out W (y - 1) hy2
      have hi4 := fun W => HIN.out W (x + r) z2
      have hzi : (x : Int) + (r : Int) = ((x + r : Nat) : Int) := rfl
      rw [e1, hy1] at hi3
      rw [e2] at hi4
      have hne : inR d f t y = !(inR d f t x) := by revert y4; cases inR d f t y <;> cases inR d f t x <;> simp
      rw [hne] at hi2
      generalize inR d f t x = I at *
      generalize x + r = z at *
      have H1 := Lib.hid hi1
      have H2 := Lib.hid hi2
      have H3 := Lib.hid hi3
      have H4 := Lib.hid hi4
      clear e1 e2 hi1 hi2 hi3 hi4 hne y4 y5 hN hN' hnx HIN hM hcz y3 hzz z0 z1
      cases I
      all_goals
        go_enter Tryd.func6, Tryd.ntmps6
        go_upto_region 2 with (go_at_call 13; (with_reducible refine (hcut _).mono ?_); rintro e w2 ⟨rfl, hb2⟩; have hk2 := hk0.call hb2; obtain ⟨c0, c1, c2, c3⟩ := hk2.cells4; have f0 := hk2.frozen 0; have f1 := hk2.frozen 1; have f2 := hk2.frozen 2; have f3 := hk2.frozen 3)
        have hkx := hk2.set4 (.string N) (.int .i64 (d : Int)) (.int .i64 (f : Int)) (.int .i64 (t : Int))
        have hbx := below_set4 (bthen hb0 hb2) (Nat.le_refl _) (.string N) (.int .i64 (d : Int)) (.int .i64 (f : Int)) (.int .i64 (t : Int))
        generalize (((w2.setCell ⟨w.heap.size, 0, none⟩ (.string N)).setCell ⟨w.heap.size, 1, none⟩ (.int .i64 (d : Int))).setCell ⟨w.heap.size, 2, none⟩ (.int .i64 (f : Int))).setCell ⟨w.heap.size, 3, none⟩ (.int .i64 (t : Int)) = wx at *
        clear hk2 hb2 c0 c1 c2 c3 f0 f1 f2 f3
        obtain ⟨c0, c1, c2, c3⟩ := hkx.cells4
        have HK := Lib.hid hkx
        have HB := Lib.hid hbx
        clear hkx hbx
        go_upto_region 10 with (first
          | (go_at_call 23; (with_reducible refine (HN.out _).mono ?_); rintro e w3 ⟨rfl, hb3⟩; obtain ⟨k0, k1, k2, k3⟩ := (HK.out.call hb3).cells4)
          | (go_at_call 17; (with_reducible refine (HR.out _).mono ?_); rintro e w4 ⟨rfl, hb4⟩; have hb4' := bthen hb3 hb4; obtain ⟨l0, l1, l2, l3⟩ := (HK.out.call hb4').cells4)
          | (go_at_call 19; (with_reducible refine (H1.out _).mono ?_); rintro e w5 ⟨rfl, hb5⟩; have hb5' := bthen hb4' hb5; obtain ⟨m0, m1, m2, m3⟩ := (HK.out.call hb5').cells4))
        clear k0 k1 k2 k3 l0 l1 l2 l3 c0 c1 c2 c3
        go_upto_region 12 with (first
          | (go_at_call 19; (with_reducible refine (H2.out w5).mono ?_); rintro e w6 ⟨rfl, hb6⟩; have hb6' := bthen hb5' hb6; obtain ⟨p0, p1, p2, p3⟩ := (HK.out.call hb6').cells4)
          | (go_at_call 19; (with_reducible refine (H3.out w6).mono ?_); rintro e w7 ⟨rfl, hb7⟩; have hb7' := bthen hb6' hb7)
          | (go_at_call 21; (with_reducible refine (HAL.out _ (bthen HB.out hb7')).mono ?_); rintro e w8 ⟨rfl, hb8⟩; have hb8' := bthen hb7' hb8; obtain ⟨q0, q1, q2, q3⟩ := (HK.out.call hb8').cells4))
        clear p0 p1 p2 p3 m0 m1 m2 m3
        go_wp2_with (go_at_call 19; (with_reducible refine (H4.out _).mono ?_); rintro e w9 ⟨rfl, hb9⟩)
        go_ret
        exact ⟨rfl, bthen HB.out (bthen hb8' hb9)⟩
end Go.Proofs.YtekcmgajjbdmgabDoor
