/- The walk of the statement HoursParts: hours that are parted at a minute have just the ticks of both parts, and none in both; of more days no fewer. -/
import Derived.Test.YtekcmgajjbdmgabDoorHrsH
import Derived.Test.YtekcmgajjbdmgabDoorHoursCountW
import Derived.Outline
namespace Go.Proofs.YtekcmgajjbdmgabDoor
open Go.RowKit

/-- more days -/
theorem inR_more (d k f t x : Nat) (h : inR d f t x = true) : inR (d ||| 2 ^ k) f t x = true := by
  unfold inR hasT at h ⊢
  rw [Bool.and_eq_true, decide_eq_true_eq] at h ⊢
  refine ⟨?_, h.2⟩
  have h1 := h.1
  generalize x / 60000 % 10080 / 1440 = j at *
  have e : ∀ a : Nat, a / 2 ^ j % 2 = 1 ↔ a.testBit j = true := fun a => by rw [Nat.testBit_eq_decide_div_mod_eq, decide_eq_true_eq]
  rw [e] at h1 ⊢
  rw [Nat.testBit_or, h1]; rfl
/-- parted at a minute -/
theorem inR_part (d f a t x : Nat) (h1 : f ≤ a) (h2 : a ≤ t) : inR d f t x = (inR d f a x || inR d a t x) ∧ (inR d f a x && inR d a t x) = false := by
  unfold inR
  generalize x / 60000 % 10080 % 1440 = m
  generalize hasT d _ = b
  cases b
  · simp
  · simp only [Bool.true_and]
    constructor
    · rw [Bool.eq_iff_iff, Bool.or_eq_true, decide_eq_true_eq, decide_eq_true_eq, decide_eq_true_eq]; omega
    · rw [Bool.and_eq_false_iff, decide_eq_false_iff_not, decide_eq_false_iff_not]; omega
theorem inT_parts (n : Bs) (d f t a k : Nat) (x : Int) (hr : (bwC n && spanC d f t) = true) (h1 : f ≤ a) (h2 : a < t) (hk : k < 7) :
    inT n d f t x = (inT n d f a x || inT n d a t x) ∧ (inT n d f a x && inT n d a t x) = false ∧ (inT n d f t x = true → inT n ((d ||| 2 ^ k : Nat) : Int) f t x = true) := by
  rw [Bool.and_eq_true] at hr
  obtain ⟨hb, hs⟩ := hr
  have hs0 := hs
  unfold spanC at hs
  rw [decide_eq_true_eq] at hs
  obtain ⟨p1, p2⟩ := inR_part d f a t x.toNat h1 (by omega)
  have s1 : spanC d f a = decide (f < a) := by unfold spanC; rw [decide_eq_decide]; omega
  have s2 : spanC d a t = true := by unfold spanC; rw [decide_eq_true_eq]; omega
  have hd : d ||| 2 ^ k < 128 := Nat.or_lt_two_pow (n := 7) (by omega) (Nat.pow_lt_pow_right (by omega) (by omega))
  have hd1 : d ≤ d ||| 2 ^ k := Nat.left_le_or
  have s3 : spanC ((d ||| 2 ^ k : Nat) : Int) f t = true := by unfold spanC; rw [decide_eq_true_eq]; omega
  unfold inT
  rw [hb, hs0, s1, s2, s3]
  simp only [Bool.true_and, Int.toNat_natCast]
  cases tickC x with
  | false => simp
  | true =>
    simp only [Bool.true_and, Bool.and_true]
    by_cases hfa : f < a
    · rw [decide_eq_true hfa]
      exact ⟨p1, p2, inR_more d k f t x.toNat⟩
    · have : a = f := by omega
      subst this
      have hz : inR d a a x.toNat = false := by
        unfold inR
        rw [Bool.and_eq_false_iff]
        exact .inr (decide_eq_false (by omega))
      rw [hz] at p1
      simp at p1
      exact ⟨by simp, by simp, inR_more d k a t x.toNat⟩

theorem or_bits2 : ∀ a : Nat, a < 128 → ∀ k : Nat, k < 7 → bits BinOp.or IntKind.i64 (a : Int) (wrap64 (2 ^ k)) = ((a ||| 2 ^ k : Nat) : Int) := or_bits

set_option maxHeartbeats 3200000 in
set_option maxRecDepth 100000 in
theorem hoursParts_walk {w : World} (n : ByteArray) (d f t : Int) (wn : n.size ≤ maxLen) (_wd : (Lit.int .i64 d).wf = true) (_wf : (Lit.int .i64 f).wf = true) (_wt : (Lit.int .i64 t).wf = true) (at_ : Int) (_wa : (Lit.int .i64 at_).wf = true) (tick : Int) (_wk : (Lit.int .i64 tick).wf = true) (day : Int) (_wy : (Lit.int .i64 day).wf = true) (hw : HW w) :
    Calls Tryd.prog 8 #[.agg #[.string n, .int .i64 d, .int .i64 f, .int .i64 t], .int .i64 at_, .int .i64 tick, .int .i64 day] w (BoolW true w) := by
  have hcut := fun W => cut7_any n d f t W wn
  have hcz := cut7_size n
  generalize cut7 n = N at *
  have HAL := Lib.hid (fun W (h : Below w.heap.size w W) => alive_any W (hw.call h))
  have hR := fun W => hRight_any N d f t W hcz
  have HI := Lib.hid (fun W d f t => hIn_any N d f t tick W hcz)
  clear hw wn _wd _wf _wt _wa _wk _wy
  have hk0 := Blk.new w 33 #[.string n, .int .i64 d, .int .i64 f, .int .i64 t]
  have hb0 := (Below.refl w.heap.size w).alloc (Nat.le_refl _) (.cells #[.string n, .int .i64 d, .int .i64 f, .int .i64 t] 33)
  cases hr : bwC N.data.toList && spanC d f t with
  | false =>
    rw [hr] at hR
    have hin := fun W => HI.out W d f t
    rw [show inT N.data.toList d f t tick = false by unfold inT; rw [hr]; rfl] at hin
    have HIN := Lib.hid hin
    have HR := Lib.hid hR
    clear hr hin hR HI
    go_enter Tryd.func8, Tryd.ntmps8
    go_upto_region 2 with (go_at_call 13; (with_reducible refine (hcut _).mono ?_); rintro e w2 ⟨rfl, hb2⟩; have hk2 := hk0.call hb2; obtain ⟨c0, c1, c2, c3⟩ := hk2.cells4; have f0 := hk2.frozen 0; have f1 := hk2.frozen 1; have f2 := hk2.frozen 2; have f3 := hk2.frozen 3)
    have hkx := hk2.set4 (.string N) (.int .i64 d) (.int .i64 f) (.int .i64 t)
    have hbx := below_set4 (bthen hb0 hb2) (Nat.le_refl _) (.string N) (.int .i64 d) (.int .i64 f) (.int .i64 t)
    generalize (((w2.setCell ⟨w.heap.size, 0, none⟩ (.string N)).setCell ⟨w.heap.size, 1, none⟩ (.int .i64 d)).setCell ⟨w.heap.size, 2, none⟩ (.int .i64 f)).setCell ⟨w.heap.size, 3, none⟩ (.int .i64 t) = wx at *
    clear hk2 hk0 hb0 hb2 c0 c1 c2 c3 f0 f1 f2 f3 hcut
    obtain ⟨c0, c1, c2, c3⟩ := hkx.cells4
    have HK := Lib.hid hkx
    have HB := Lib.hid hbx
    clear hkx hbx
    go_wp2_with (first
      | (go_at_call 17; (with_reducible refine (HR.out _).mono ?_); rintro e w4 ⟨rfl, hb4⟩)
      | (go_at_call 21; (with_reducible refine (HAL.out _ (bthen HB.out hb4)).mono ?_); rintro e w5 ⟨rfl, hb5⟩; have hb5' := bthen hb4 hb5; obtain ⟨k0, k1, k2, k3⟩ := (HK.out.call hb5').cells4)
      | (go_at_call 19; (with_reducible refine (HIN.out _).mono ?_); rintro e w6 ⟨rfl, hb6⟩))
    go_ret
    exact ⟨rfl, bthen HB.out (bthen hb5' hb6)⟩
  | true =>
    rw [hr] at hR
    have hr0 := hr
    rw [Bool.and_eq_true] at hr
    have hs := hr.2
    unfold spanC at hs
    rw [decide_eq_true_eq] at hs
    obtain ⟨d, rfl⟩ := Int.eq_ofNat_of_zero_le (show 0 ≤ d by omega)
    obtain ⟨f, rfl⟩ := Int.eq_ofNat_of_zero_le (show 0 ≤ f by omega)
    obtain ⟨t, rfl⟩ := Int.eq_ofNat_of_zero_le (show 0 ≤ t by omega)
    obtain ⟨M, hM⟩ : ∃ M : Nat, t - f = M := ⟨_, rfl⟩
    obtain ⟨T1, r1, hT1, hT1a, hT1b, hr1, hr1l⟩ := tmod_parts at_ M (by omega)
    obtain ⟨T2, k, hT20, hT2a0, hT2b0, hk10, hkl⟩ := tmod_parts day 7 (by omega)
    have hT2 : day.tmod 7 = T2 := hT20
    have hT2a : -7 < T2 := hT2a0
    have hT2b : T2 < 7 := hT2b0
    have hk1 : (T2 + 7).tmod 7 = (k : Int) := hk10
    clear hT20 hT2a0 hT2b0 hk10
    have hMi : (t : Int) - (f : Int) = (M : Int) := by omega
    have hML : 1 ≤ M ∧ M ≤ 1440 := by omega
    have hor := or_bits d (by omega) k hkl
    obtain ⟨a, ha⟩ : ∃ a : Nat, f + r1 = a := ⟨_, rfl⟩
    have hai : (f : Int) + (r1 : Int) = (a : Int) := by omega
    obtain ⟨e1, e2, e3⟩ := inT_parts N.data.toList d f t a k tick hr0 (by omega) (by omega) hkl
    have hI1 := fun W => HI.out W d f t
    have hI2 := fun W => HI.out W d f a
    have hI3 := fun W => HI.out W d a t
    have hI4 := fun W => HI.out W ((d ||| 2 ^ k : Nat) : Int) f t
    generalize hD : d ||| 2 ^ k = D at *
    have hb1 : f ≤ 1440 ∧ t ≤ 1440 ∧ f < t := by omega
    generalize inT N.data.toList d f t tick = A at *
    generalize inT N.data.toList d f a tick = B at *
    generalize inT N.data.toList d a t tick = C at *
    generalize inT N.data.toList D f t tick = E at *
    have hcases : (A = false ∧ B = false ∧ C = false) ∨ (A = true ∧ E = true ∧ B = true ∧ C = false) ∨ (A = true ∧ E = true ∧ B = false ∧ C = true) := by
      cases B <;> cases C <;> simp_all
    have HC := Lib.hid hcases
    have H1 := Lib.hid hI1
    have H2 := Lib.hid hI2
    have H3 := Lib.hid hI3
    have H4 := Lib.hid hI4
    have HR := Lib.hid hR
    clear hr hr0 hs e1 e2 e3 hI1 hI2 hI3 hI4 hcases hR HI hD ha hM
    go_enter Tryd.func8, Tryd.ntmps8
    go_upto_region 2 with (go_at_call 13; (with_reducible refine (hcut _).mono ?_); rintro e w2 ⟨rfl, hb2⟩; have hk2 := hk0.call hb2; obtain ⟨c0, c1, c2, c3⟩ := hk2.cells4; have f0 := hk2.frozen 0; have f1 := hk2.frozen 1; have f2 := hk2.frozen 2; have f3 := hk2.frozen 3)
    have hkx := hk2.set4 (.string N) (.int .i64 d) (.int .i64 f) (.int .i64 t)
    have hbx := below_set4 (bthen hb0 hb2) (Nat.le_refl _) (.string N) (.int .i64 d) (.int .i64 f) (.int .i64 t)
    generalize (((w2.setCell ⟨w.heap.size, 0, none⟩ (.string N)).setCell ⟨w.heap.size, 1, none⟩ (.int .i64 d)).setCell ⟨w.heap.size, 2, none⟩ (.int .i64 f)).setCell ⟨w.heap.size, 3, none⟩ (.int .i64 t) = wx at *
    clear hk2 hk0 hb0 hb2 c0 c1 c2 c3 f0 f1 f2 f3 hcut
    obtain ⟨c0, c1, c2, c3⟩ := hkx.cells4
    have HK := Lib.hid hkx
    have HB := Lib.hid hbx
    clear hkx hbx
    go_upto_region 5 with (go_at_call 17; (with_reducible refine (HR.out _).mono ?_); rintro e w4 ⟨rfl, hb4⟩; obtain ⟨k0, k1, k2, k3⟩ := (HK.out.call hb4).cells4)
    have hM0 : ¬ ((M : Int) = 0) := by omega
    go_region
    all_goals
      have hb4' := hb4.drew
      generalize w4.drew = w5 at *
      have hk5 := HK.out.call hb4'
      obtain ⟨k0, k1, k2, k3⟩ := hk5.cells4
      clear hT1 hr1 hT1a hT1b
      go_upto_region 6 with fail
      go_cut [10, 11, 12] (fun p1 p2 p3 wy => ∃ g1 g2 g3, p1 = .pointer (some ⟨g1, 0, none⟩) ∧ p2 = .pointer (some ⟨g2, 0, none⟩) ∧ p3 = .pointer (some ⟨g3, 0, none⟩) ∧ (g1 ≠ g2 ∧ g1 ≠ g3 ∧ g2 ≠ g3) ∧ (Blk wy g1 33 #[.string N, .int .i64 (d : Int), .int .i64 (f : Int), .int .i64 (t : Int)] ∧ Blk wy g2 33 #[.string N, .int .i64 (d : Int), .int .i64 (f : Int), .int .i64 (t : Int)] ∧ Blk wy g3 33 #[.string N, .int .i64 (d : Int), .int .i64 (f : Int), .int .i64 (t : Int)]) ∧ (w5.heap.size ≤ g1 ∧ w5.heap.size ≤ g2 ∧ w5.heap.size ≤ g3) ∧ Below w5.heap.size w5 wy)
      case first =>
        have k0p := fun a => (hk5.alloc a).cells4.1
        have k0pd := fun a => (hk5.alloc a).drew.cells4.1
        have k0q := fun a b => ((hk5.alloc a).alloc b).cells4.1
        have k0qd := fun a b => ((hk5.alloc a).alloc b).drew.cells4.1
        have k0r := fun a b c => (((hk5.alloc a).alloc b).alloc c).cells4.1
        have k0rd := fun a b c => (((hk5.alloc a).alloc b).alloc c).drew.cells4.1
        have k1p := fun a => (hk5.alloc a).cells4.2.1
        have k1pd := fun a => (hk5.alloc a).drew.cells4.2.1
        have k1q := fun a b => ((hk5.alloc a).alloc b).cells4.2.1
        have k1qd := fun a b => ((hk5.alloc a).alloc b).drew.cells4.2.1
        have k1r := fun a b c => (((hk5.alloc a).alloc b).alloc c).cells4.2.1
        have k1rd := fun a b c => (((hk5.alloc a).alloc b).alloc c).drew.cells4.2.1
        have k2p := fun a => (hk5.alloc a).cells4.2.2.1
        have k2pd := fun a => (hk5.alloc a).drew.cells4.2.2.1
        have k2q := fun a b => ((hk5.alloc a).alloc b).cells4.2.2.1
        have k2qd := fun a b => ((hk5.alloc a).alloc b).drew.cells4.2.2.1
        have k2r := fun a b c => (((hk5.alloc a).alloc b).alloc c).cells4.2.2.1
        have k2rd := fun a b c => (((hk5.alloc a).alloc b).alloc c).drew.cells4.2.2.1
        have k3p := fun a => (hk5.alloc a).cells4.2.2.2
        have k3pd := fun a => (hk5.alloc a).drew.cells4.2.2.2
        have k3q := fun a b => ((hk5.alloc a).alloc b).cells4.2.2.2
        have k3qd := fun a b => ((hk5.alloc a).alloc b).drew.cells4.2.2.2
        have k3r := fun a b c => (((hk5.alloc a).alloc b).alloc c).cells4.2.2.2
        have k3rd := fun a b c => (((hk5.alloc a).alloc b).alloc c).drew.cells4.2.2.2
        have n0 := ((Blk.new w5 33 #[.string N, .int .i64 (d : Int), .int .i64 (f : Int), .int .i64 (t : Int)]).alloc (.cells #[.string N, .int .i64 (d : Int), .int .i64 (f : Int), .int .i64 (t : Int)] 33)).alloc (.cells #[.string N, .int .i64 (d : Int), .int .i64 (f : Int), .int .i64 (t : Int)] 33)
        have n1 := (Blk.new (w5.alloc (.cells #[.string N, .int .i64 (d : Int), .int .i64 (f : Int), .int .i64 (t : Int)] 33)) 33 #[.string N, .int .i64 (d : Int), .int .i64 (f : Int), .int .i64 (t : Int)]).alloc (.cells #[.string N, .int .i64 (d : Int), .int .i64 (f : Int), .int .i64 (t : Int)] 33)
        have n2 := Blk.new ((w5.alloc (.cells #[.string N, .int .i64 (d : Int), .int .i64 (f : Int), .int .i64 (t : Int)] 33)).alloc (.cells #[.string N, .int .i64 (d : Int), .int .i64 (f : Int), .int .i64 (t : Int)] 33)) 33 #[.string N, .int .i64 (d : Int), .int .i64 (f : Int), .int .i64 (t : Int)]
        have z1 : (w5.alloc (.cells #[.string N, .int .i64 (d : Int), .int .i64 (f : Int), .int .i64 (t : Int)] 33)).heap.size = w5.heap.size + 1 := by simp
        have z2 : ((w5.alloc (.cells #[.string N, .int .i64 (d : Int), .int .i64 (f : Int), .int .i64 (t : Int)] 33)).alloc (.cells #[.string N, .int .i64 (d : Int), .int .i64 (f : Int), .int .i64 (t : Int)] 33)).heap.size = w5.heap.size + 1 + 1 := by simp
        rw [z1] at n1
        rw [z2] at n2
        have bb := (((Below.refl w5.heap.size w5).alloc (Nat.le_refl _) (.cells #[.string N, .int .i64 (d : Int), .int .i64 (f : Int), .int .i64 (t : Int)] 33)).alloc (by simp) (.cells #[.string N, .int .i64 (d : Int), .int .i64 (f : Int), .int .i64 (t : Int)] 33)).alloc (by simp; omega) (.cells #[.string N, .int .i64 (d : Int), .int .i64 (f : Int), .int .i64 (t : Int)] 33)
        have N0 := Lib.hid n0
        have N1 := Lib.hid n1
        have N2 := Lib.hid n2
        have BB := Lib.hid bb
        clear n0 n1 n2 z1 z2 bb
        go_region
        all_goals
          go_wp2_with fail
          go_meet
          first
          | exact ⟨_, _, _, rfl, rfl, rfl, by omega, ⟨N0.out.drew, N1.out.drew, N2.out.drew⟩, by omega, BB.out.drew⟩
          | exact ⟨_, _, _, rfl, rfl, rfl, by omega, ⟨N0.out.drew, N2.out.drew, N1.out.drew⟩, by omega, BB.out.drew⟩
          | exact ⟨_, _, _, rfl, rfl, rfl, by omega, ⟨N1.out.drew, N0.out.drew, N2.out.drew⟩, by omega, BB.out.drew⟩
          | exact ⟨_, _, _, rfl, rfl, rfl, by omega, ⟨N1.out.drew, N2.out.drew, N0.out.drew⟩, by omega, BB.out.drew⟩
          | exact ⟨_, _, _, rfl, rfl, rfl, by omega, ⟨N2.out.drew, N0.out.drew, N1.out.drew⟩, by omega, BB.out.drew⟩
          | exact ⟨_, _, _, rfl, rfl, rfl, by omega, ⟨N2.out.drew, N1.out.drew, N0.out.drew⟩, by omega, BB.out.drew⟩
      case rest =>
        obtain ⟨g1, g2, g3, rfl, rfl, rfl, ⟨d12, d13, d23⟩, ⟨hg1, hg2, hg3⟩, ⟨l1, l2, l3⟩, hby⟩ := hcut
        have hk6 := hk5.call hby
        have hb6 := bthen hb4' hby
        clear k0 k1 k2 k3
        have x0 := hg1.frozen 3
        have x1 := hg2.frozen 2
        have x2 := fun v => (hg2.setO ⟨g1, 3, none⟩ v (Ne.symm d12)).frozen 2
        have y0 := hg1.cells4.2.2.2
        have y1 := fun v => (hg2.setO ⟨g1, 3, none⟩ v (Ne.symm d12)).cells4.2.2.1
        have y2 := hg2.cells4.2.2.1
        go_upto_region 8 with fail
        have b1 : Blk ((wc.setCell ⟨g1, 3, none⟩ (.int .i64 (a : Int))).setCell ⟨g2, 2, none⟩ (.int .i64 (a : Int))) g1 33 #[.string N, .int .i64 (d : Int), .int .i64 (f : Int), .int .i64 (a : Int)] := (hg1.set 3 (.int .i64 (a : Int))).setO ⟨g2, 2, none⟩ (.int .i64 (a : Int)) d12
        have b2 : Blk ((wc.setCell ⟨g1, 3, none⟩ (.int .i64 (a : Int))).setCell ⟨g2, 2, none⟩ (.int .i64 (a : Int))) g2 33 #[.string N, .int .i64 (d : Int), .int .i64 (a : Int), .int .i64 (t : Int)] := (hg2.setO ⟨g1, 3, none⟩ (.int .i64 (a : Int)) (Ne.symm d12)).set 2 (.int .i64 (a : Int))
        have b3 := (hg3.setO ⟨g1, 3, none⟩ (.int .i64 (a : Int)) (Ne.symm d13)).setO ⟨g2, 2, none⟩ (.int .i64 (a : Int)) (Ne.symm d23)
        have lw : w.heap.size < w5.heap.size := hk5.lt
        have b0 := (hk6.setO ⟨g1, 3, none⟩ (.int .i64 (a : Int)) (by simp only; omega)).setO ⟨g2, 2, none⟩ (.int .i64 (a : Int)) (by simp only; omega)
        have hb7 := (hb6.setCell (p := ⟨g1, 3, none⟩) (by simp only; have := hb4'.size; omega) (.int .i64 (a : Int))).setCell (p := ⟨g2, 2, none⟩) (by simp only; have := hb4'.size; omega) (.int .i64 (a : Int))
        have l3' : wx.heap.size ≤ g3 := by have := hb4'.size; omega
        generalize (wc.setCell ⟨g1, 3, none⟩ (.int .i64 (a : Int))).setCell ⟨g2, 2, none⟩ (.int .i64 (a : Int)) = w7 at *
        have z0 := b3.cells4.2.1
        have z1 := b3.frozen 1
        have z2 := b3.drew.cells4.2.1
        have z3 := b3.drew.frozen 1
        clear x0 x1 x2 y0 y1 y2
        go_region
        all_goals
          have e1 := (b1.setO ⟨g3, 1, none⟩ (.int .i64 (D : Int)) d13).drew
          have e2 := (b2.setO ⟨g3, 1, none⟩ (.int .i64 (D : Int)) d23).drew
          have e3 : Blk (w7.setCell ⟨g3, 1, none⟩ (.int .i64 (D : Int))).drew g3 33 #[.string N, .int .i64 (D : Int), .int .i64 (f : Int), .int .i64 (t : Int)] := (b3.set 1 (.int .i64 (D : Int))).drew
          have e0 := (b0.setO ⟨g3, 1, none⟩ (.int .i64 (D : Int)) (by simp only; omega)).drew
          have hb8 := (hb7.setCell (p := ⟨g3, 1, none⟩) l3' (.int .i64 (D : Int))).drew
          generalize (w7.setCell ⟨g3, 1, none⟩ (.int .i64 (D : Int))).drew = w8 at *
          have E0 := Lib.hid e0
          have E3 := Lib.hid e3
          have HB8 := Lib.hid (bthen HB.out hb8)
          clear z0 z1 z2 z3 b0 b1 b2 b3 hb7 hk6 hg1 hg2 hg3 hb6 hk5 e0 e3 hor hT2 hk1 hMi hai l1 l2 l3 l3' lw
          go_upto_region 9 with fail
          obtain ⟨p0, p1, p2, p3⟩ := e1.cells4
          obtain ⟨q0, q1, q2, q3⟩ := e2.cells4
          have P0 := fun xq => later_cell p0 xq
          have P1 := fun xq => later_cell p1 xq
          have P2 := fun xq => later_cell p2 xq
          have P3 := fun xq => later_cell p3 xq
          have Q0 := fun xq => later_cell q0 xq
          have Q1 := fun xq => later_cell q1 xq
          have Q2 := fun xq => later_cell q2 xq
          have Q3 := fun xq => later_cell q3 xq
          clear p0 p1 p2 p3 q0 q1 q2 q3 e1 e2
          have HI1 := Lib.hid (fun xq => calls_later (H2.out (later w8 xq)))
          have HI2 := Lib.hid (fun xq => calls_later (H3.out (later w8 xq)))
          refine wp_region_later (by kernel_rfl) (by kernel_rfl) ?_
          repeat (go_big_quiet_step ((go_at_call 19; first | (with_reducible exact HI1.out _) | (with_reducible exact HI2.out _))))
          refine wpQuiet_nil ?_
          rintro _ ⟨xq, rfl⟩
          have hb9 := later_below w8 xq
          clear P0 P1 P2 P3 Q0 Q1 Q2 Q3 HI1 HI2
          generalize later w8 xq = w9 at *
          rcases HC.out with ⟨rfl, rfl, rfl⟩ | ⟨rfl, rfl, rfl, rfl⟩ | ⟨rfl, rfl, rfl, rfl⟩
          all_goals
            go_wp2_with (first
              | (go_at_call 21; (with_reducible refine (HAL.out _ (bthen HB8.out hb9)).mono ?_); rintro e w10 ⟨rfl, hb10⟩; have hb10' := bthen hb9 hb10; obtain ⟨k0, k1, k2, k3⟩ := (E0.out.call hb10').cells4)
              | (go_at_call 19; (with_reducible refine (H1.out w10).mono ?_); rintro e w11 ⟨rfl, hb11⟩; have hb11' := bthen hb10' hb11; obtain ⟨m0, m1, m2, m3⟩ := (E0.out.call hb11').cells4)
              | (go_at_call 19; (with_reducible refine (H1.out w11).mono ?_); rintro e w12 ⟨rfl, hb12⟩; have hb12' := bthen hb11' hb12; obtain ⟨n0, n1, n2, n3⟩ := (E3.out.call hb12').cells4)
              | (go_at_call 19; (with_reducible refine (H4.out w12).mono ?_); rintro e w13 ⟨rfl, hb13⟩; have hb13' := bthen hb12' hb13))
            go_ret
            first | exact ⟨rfl, bthen HB8.out hb13'⟩ | exact ⟨rfl, bthen HB8.out hb12'⟩
end Go.Proofs.YtekcmgajjbdmgabDoor
