/- The walk of the statement HoursTell: which hours may be, which ticks are within any, their text, and what any text is read as, is as the document says, or refused. -/
import Derived.Test.YtekcmgajjbdmgabDoorHrsV
import Derived.Test.YtekcmgajjbdmgabDoorHrsS
import Derived.Test.YtekcmgajjbdmgabDoorHrsH
import Derived.Test.YtekcmgajjbdmgabDoorHoursBackW
import Derived.Outline
namespace Go.Proofs.YtekcmgajjbdmgabDoor
open Go.RowKit

set_option maxHeartbeats 12800000 in
set_option maxRecDepth 100000 in
theorem hoursTell_walk {w : World} (n : ByteArray) (d f t : Int) (wn : n.size ≤ maxLen) (_wd : (Lit.int .i64 d).wf = true) (_wf : (Lit.int .i64 f).wf = true) (_wt : (Lit.int .i64 t).wf = true) (x : Int) (_wx : (Lit.int .i64 x).wf = true) (s0 : ByteArray) (_ws : s0.size ≤ maxLen) (hw : HW w) :
    Calls Tryd.prog 4 #[.agg #[.string n, .int .i64 d, .int .i64 f, .int .i64 t], .int .i64 x, .string s0] w (BoolW true w) := by
  have hm1 : ∀ W (t : TypeId) (ts : Array TypeId), (Builtin.min_ ts t #[.int .i64 (s0.size : Int), .int .i64 60]).run Tryd.prog W = .ok (.int .i64 ((min s0.size 60 : Nat) : Int)) W := fun W t ts => run_minN W ts t s0.size 60
  have hs1 := fun W => run_cutN (P := Tryd.prog) W 9 60 s0 Tryd.underlying9
  have l1 := cutN_size 60 s0
  generalize cutN 60 s0 = S at *
  generalize min s0.size 60 = m1 at *
  have hcut := fun W => cut7_any n d f t W wn
  have hcz := cut7_size n
  generalize cut7 n = N at *
  have HAL := Lib.hid (fun W (h : Below w.heap.size w W) => alive_any W (hw.call h))
  have ht := fun W (h : Below w.heap.size w W) => hText_any N d f t W hcz (hw.call h)
  have hp := fun W (h : Below w.heap.size w W) => hParse_any S W (hw.call h) (by omega)
  have hq := fun W => rParse_any S W (by omega)
  have hr1 := fun W => hRight_any N d f t W hcz
  have hr2 := fun W => rRight_any N d f t W hcz
  have hi1 := fun W => hIn_any N d f t x W hcz
  have hi2 := fun W => rIn_any N d f t x W hcz
  have hrt : ∀ d' f' t' : Nat, d = d' → f = f' → t = t' → spanC d' f' t' = true → ∀ W, Calls Tryd.prog 22 #[.agg #[.string N, .int .i64 d, .int .i64 f, .int .i64 t]] W (StrW (textT d' f' t') W) := by
    rintro d' f' t' rfl rfl rfl h W
    unfold spanC at h
    rw [decide_eq_true_eq] at h
    exact rText_any N d' f' t' W (by omega) (by omega) (by omega)
  have hk0 := Blk.new w 33 #[.string n, .int .i64 d, .int .i64 f, .int .i64 t]
  have hb0 := (Below.refl w.heap.size w).alloc (Nat.le_refl _) (.cells #[.string n, .int .i64 d, .int .i64 f, .int .i64 t] 33)
  generalize inT N.data.toList d f t x = I at *
  -- the text, by whether they may be
  have htx : ((bwC N.data.toList && spanC d f t) = false ∧ ∀ W (_h : Below w.heap.size w W), Calls Tryd.prog 14 #[.agg #[.string N, .int .i64 d, .int .i64 f, .int .i64 t]] W fun e w' => e = .returned (.tuple #[.string ⟨#[]⟩, .int .i64 1]) ∧ Below W.heap.size W w') ∨
      ((bwC N.data.toList && spanC d f t) = true ∧ ∃ X : ByteArray, (∀ W (_h : Below w.heap.size w W), Calls Tryd.prog 14 #[.agg #[.string N, .int .i64 d, .int .i64 f, .int .i64 t]] W fun e w' => e = .returned (.tuple #[.string X, .int .i64 0]) ∧ Below W.heap.size W w') ∧
        ∀ W, Calls Tryd.prog 22 #[.agg #[.string N, .int .i64 d, .int .i64 f, .int .i64 t]] W fun e w' => e = .returned (.string X) ∧ Below W.heap.size W w') := by
    cases hB : bwC N.data.toList && spanC d f t with
    | false =>
      refine .inl ⟨rfl, fun W h => ?_⟩
      have h1 := ht W h
      rw [show textI N.data.toList d f t = ([], 1) by unfold textI; rw [if_neg (by rw [hB]; simp)]] at h1
      exact h1
    | true =>
      obtain ⟨d', f', t', e1, e2, e3, e4, e5⟩ := textI_back hB
      refine .inr ⟨rfl, bytA (textT d' f' t'), fun W h => ?_, hrt d' f' t' e1 e2 e3 (parse_someH e5).1⟩
      have h1 := ht W h
      rw [e4] at h1
      exact h1
  -- what the text is read as
  have hpp : ∃ (a b c : Int) (nm : ByteArray) (er : Int) (is : Bool), ((er = 0 ∧ is = true) ∨ (er = 6 ∧ is = false)) ∧
      (∀ W (_h : Below w.heap.size w W), Calls Tryd.prog 15 #[.string S] W fun e w' => e = .returned (.tuple #[.agg #[.string nm, .int .i64 a, .int .i64 b, .int .i64 c], .int .i64 er]) ∧ Below W.heap.size W w') ∧
      (∀ W, Calls Tryd.prog 16 #[.string S] W fun e w' => e = .returned (.tuple #[.agg #[.string nm, .int .i64 a, .int .i64 b, .int .i64 c], .bool is]) ∧ Below W.heap.size W w') := by
    cases hP : parseH S.data.toList with
    | none => rw [hP] at hp hq; exact ⟨0, 0, 0, ⟨#[]⟩, 6, false, .inr ⟨rfl, rfl⟩, hp, hq⟩
    | some v => obtain ⟨d1, f1, t1⟩ := v; rw [hP] at hp hq; exact ⟨_, _, _, ⟨#[120]⟩, 0, true, .inl ⟨rfl, rfl⟩, hp, hq⟩
  obtain ⟨a, b, c, nm, er, is, hcase, hp', hq'⟩ := hpp
  generalize (bwC N.data.toList && spanC d f t) = B at *
  have HP := Lib.hid hp'
  have HQ := Lib.hid hq'
  have HR1 := Lib.hid hr1
  have HR2 := Lib.hid hr2
  have HI1 := Lib.hid hi1
  have HI2 := Lib.hid hi2
  have HTX := Lib.hid htx
  have HC := Lib.hid hcase
  clear ht hp hq hr1 hr2 hi1 hi2 hrt hp' hq' htx hcase hw _wd _wf _wt _wx _ws
  go_enter Tryd.func4, Tryd.ntmps4
  go_upto_region 1 with fail
  go_cut [2] (fun sv wy => sv = .string S ∧ Blk wy w.heap.size 33 #[.string N, .int .i64 d, .int .i64 f, .int .i64 t] ∧ Below w.heap.size w wy)
  case first =>
    go_region_with (go_at_call 13; (with_reducible refine (hcut _).mono ?_); rintro e w2 ⟨rfl, hb2⟩; have hk2 := hk0.drew.call hb2; obtain ⟨c0, c1, c2, c3⟩ := hk2.cells4; have f0 := hk2.frozen 0; have f1 := hk2.frozen 1; have f2 := hk2.frozen 2; have f3 := hk2.frozen 3)
    all_goals
      go_wp2_with fail
      go_meet
      exact ⟨rfl, hk2.set4 _ _ _ _, below_set4 (bthen hb0.drew hb2) (Nat.le_refl _) _ _ _ _⟩
  case rest =>
  obtain ⟨rfl, hkx, hbx⟩ := hcut
  clear hk0 hb0 hm1 hs1 wn l1 hcz
  have HK := Lib.hid hkx
  have HB := Lib.hid hbx
  obtain ⟨c0, c1, c2, c3⟩ := hkx.cells4
  generalize wc = wx at *
  clear hkx hbx
  rcases HTX.out with ⟨rfl, hT⟩ | ⟨rfl, X, hT, hTr⟩
  · have HT := Lib.hid hT
    clear hT HTX
    go_upto_region 5 with (first
      | (go_at_call 14; (with_reducible refine (HT.out _ HB.out).mono ?_); rintro e w3 ⟨rfl, hb3⟩)
      | (go_at_call 15; (with_reducible refine (HP.out _ (bthen HB.out hb3)).mono ?_); rintro e w4 ⟨rfl, hb4⟩)
      | (go_at_call 16; (with_reducible refine (HQ.out _).mono ?_); rintro e w5 ⟨rfl, hb5⟩))
    have n9 := (Blk.new w4 33 #[.string nm, .int .i64 a, .int .i64 b, .int .i64 c]).call hb5
    have hb4' := (bthen hb3 hb4).alloc (bthen hb3 hb4).size (.cells #[.string nm, .int .i64 a, .int .i64 b, .int .i64 c] 33)
    have n9' := n9.alloc (.cells #[.string nm, .int .i64 a, .int .i64 b, .int .i64 c] 33)
    have n11 := Blk.new w5 33 #[.string nm, .int .i64 a, .int .i64 b, .int .i64 c]
    have hb6 := (bthen hb4' hb5).alloc (bthen hb4' hb5).size (.cells #[.string nm, .int .i64 a, .int .i64 b, .int .i64 c] 33)
    have hk6 := HK.out.call hb6
    generalize w5.alloc (.cells #[.string nm, .int .i64 a, .int .i64 b, .int .i64 c] 33) = w6 at *
    generalize w4.heap.size = G9 at *
    generalize w5.heap.size = G11 at *
    obtain ⟨p0, p1, p2, p3⟩ := n9'.cells4
    obtain ⟨q0, q1, q2, q3⟩ := n11.cells4
    obtain ⟨k0, k1, k2, k3⟩ := hk6.cells4
    have P0 := fun xq => later_cell p0 xq
    have P1 := fun xq => later_cell p1 xq
    have P2 := fun xq => later_cell p2 xq
    have P3 := fun xq => later_cell p3 xq
    have Q0 := fun xq => later_cell q0 xq
    have Q1 := fun xq => later_cell q1 xq
    have Q2 := fun xq => later_cell q2 xq
    have Q3 := fun xq => later_cell q3 xq
    have K0 := fun xq => later_cell k0 xq
    have K1 := fun xq => later_cell k1 xq
    have K2 := fun xq => later_cell k2 xq
    have K3 := fun xq => later_cell k3 xq
    clear p0 p1 p2 p3 q0 q1 q2 q3 k0 k1 k2 k3 c0 c1 c2 c3 n9 n9' n11 hb4' hb4 hb5 hb3
    have hbz := bthen HB.out hb6
    have A1 := Lib.hid (fun xq => calls_later (HAL.out (later w6 xq) (bthen hbz (later_below w6 xq))))
    have A2 := Lib.hid (fun xq => calls_later (HR1.out (later w6 xq)))
    have A3 := Lib.hid (fun xq => calls_later (HR2.out (later w6 xq)))
    have A4 := Lib.hid (fun xq => calls_later (HI1.out (later w6 xq)))
    have A5 := Lib.hid (fun xq => calls_later (HI2.out (later w6 xq)))
    have hnm : (nm.toList == nm.toList) = true := by simp
    rcases HC.out with ⟨rfl, rfl⟩ | ⟨rfl, rfl⟩ <;> cases I
    all_goals
      refine wp_region_later (by kernel_rfl) (by kernel_rfl) ?_
      repeat (go_big_quiet_step (first | (go_at_call 21; with_reducible exact A1.out _) | (go_at_call 17; with_reducible exact A2.out _) | (go_at_call 18; with_reducible exact A3.out _) | (go_at_call 19; with_reducible exact A4.out _) | (go_at_call 20; with_reducible exact A5.out _)))
      refine wpQuiet_nil ?_
      rintro _ ⟨xq, rfl⟩
      have hb7 := later_below w6 xq
      have hk7 := hk6.call hb7
      clear P0 P1 P2 P3 Q0 Q1 Q2 Q3 K0 K1 K2 K3 A1 A2 A3 A4 A5
      generalize later w6 xq = w7 at *
      obtain ⟨k0, k1, k2, k3⟩ := hk7.cells4
      go_wp2_with (go_at_call 18; (with_reducible refine (HR2.out _).mono ?_); rintro e w8 ⟨rfl, hb8⟩)
      go_ret
      exact ⟨rfl, bthen hbz (bthen hb7 hb8)⟩
  · have HT := Lib.hid hT
    have HTR := Lib.hid hTr
    clear hT hTr HTX
    go_upto_region 5 with (first
      | (go_at_call 14; (with_reducible refine (HT.out _ HB.out).mono ?_); rintro e w3 ⟨rfl, hb3⟩)
      | (go_at_call 15; (with_reducible refine (HP.out _ (bthen HB.out hb3)).mono ?_); rintro e w4 ⟨rfl, hb4⟩)
      | (go_at_call 16; (with_reducible refine (HQ.out _).mono ?_); rintro e w5 ⟨rfl, hb5⟩))
    have n9 := (Blk.new w4 33 #[.string nm, .int .i64 a, .int .i64 b, .int .i64 c]).call hb5
    have hb4' := (bthen hb3 hb4).alloc (bthen hb3 hb4).size (.cells #[.string nm, .int .i64 a, .int .i64 b, .int .i64 c] 33)
    have n9' := n9.alloc (.cells #[.string nm, .int .i64 a, .int .i64 b, .int .i64 c] 33)
    have n11 := Blk.new w5 33 #[.string nm, .int .i64 a, .int .i64 b, .int .i64 c]
    have hb6 := (bthen hb4' hb5).alloc (bthen hb4' hb5).size (.cells #[.string nm, .int .i64 a, .int .i64 b, .int .i64 c] 33)
    have hk6 := HK.out.call hb6
    generalize w5.alloc (.cells #[.string nm, .int .i64 a, .int .i64 b, .int .i64 c] 33) = w6 at *
    generalize w4.heap.size = G9 at *
    generalize w5.heap.size = G11 at *
    obtain ⟨p0, p1, p2, p3⟩ := n9'.cells4
    obtain ⟨q0, q1, q2, q3⟩ := n11.cells4
    obtain ⟨k0, k1, k2, k3⟩ := hk6.cells4
    have P0 := fun xq => later_cell p0 xq
    have P1 := fun xq => later_cell p1 xq
    have P2 := fun xq => later_cell p2 xq
    have P3 := fun xq => later_cell p3 xq
    have Q0 := fun xq => later_cell q0 xq
    have Q1 := fun xq => later_cell q1 xq
    have Q2 := fun xq => later_cell q2 xq
    have Q3 := fun xq => later_cell q3 xq
    have K0 := fun xq => later_cell k0 xq
    have K1 := fun xq => later_cell k1 xq
    have K2 := fun xq => later_cell k2 xq
    have K3 := fun xq => later_cell k3 xq
    clear p0 p1 p2 p3 q0 q1 q2 q3 k0 k1 k2 k3 c0 c1 c2 c3 n9 n9' n11 hb4' hb4 hb5 hb3
    have hbz := bthen HB.out hb6
    have A1 := Lib.hid (fun xq => calls_later (HAL.out (later w6 xq) (bthen hbz (later_below w6 xq))))
    have A2 := Lib.hid (fun xq => calls_later (HR1.out (later w6 xq)))
    have A3 := Lib.hid (fun xq => calls_later (HR2.out (later w6 xq)))
    have A4 := Lib.hid (fun xq => calls_later (HI1.out (later w6 xq)))
    have A5 := Lib.hid (fun xq => calls_later (HI2.out (later w6 xq)))
    have hnm : (nm.toList == nm.toList) = true := by simp
    rcases HC.out with ⟨rfl, rfl⟩ | ⟨rfl, rfl⟩ <;> cases I
    all_goals
      refine wp_region_later (by kernel_rfl) (by kernel_rfl) ?_
      repeat (go_big_quiet_step (first | (go_at_call 21; with_reducible exact A1.out _) | (go_at_call 17; with_reducible exact A2.out _) | (go_at_call 18; with_reducible exact A3.out _) | (go_at_call 19; with_reducible exact A4.out _) | (go_at_call 20; with_reducible exact A5.out _)))
      refine wpQuiet_nil ?_
      rintro _ ⟨xq, rfl⟩
      have hb7 := later_below w6 xq
      have hk7 := hk6.call hb7
      clear P0 P1 P2 P3 Q0 Q1 Q2 Q3 K0 K1 K2 K3 A1 A2 A3 A4 A5
      generalize later w6 xq = w7 at *
      obtain ⟨k0, k1, k2, k3⟩ := hk7.cells4
      have hX : (X.toList == X.toList) = true := by simp
      go_wp2_with (first
        | (go_at_call 18; (with_reducible refine (HR2.out _).mono ?_); rintro e w8 ⟨rfl, hb8⟩; obtain ⟨m0, m1, m2, m3⟩ := (hk7.call hb8).cells4)
        | (go_at_call 22; (with_reducible refine (HTR.out _).mono ?_); rintro e w9 ⟨rfl, hb9⟩))
      go_ret
      exact ⟨rfl, bthen hbz (bthen hb7 (bthen hb8 hb9))⟩
end Go.Proofs.YtekcmgajjbdmgabDoor
