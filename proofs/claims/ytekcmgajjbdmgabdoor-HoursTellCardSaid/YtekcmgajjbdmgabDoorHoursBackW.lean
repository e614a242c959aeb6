/- The walk of the statement HoursBack: what is written is read, but the name; what any text is read as, written, is the text; a week later it is the same. -/
import Derived.Test.YtekcmgajjbdmgabDoorHrsH
import Derived.Test.YtekcmgajjbdmgabDoorHoursCountW
import Derived.Outline
namespace Go.Proofs.YtekcmgajjbdmgabDoor
open Go.RowKit

theorem inT_week (n : Bs) (d f t : Int) (x : Nat) (hx : x < 549755813888) : inT n d f t ((x : Int) + 604800000) = inT n d f t (x : Int) := by
  unfold inT
  have e1 : tickC ((x : Int) + 604800000) = true := by unfold tickC; rw [decide_eq_true_eq]; omega
  have e2 : tickC (x : Int) = true := by unfold tickC; rw [decide_eq_true_eq]; omega
  rw [e1, e2, show ((x : Int) + 604800000).toNat = x + 604800000 by omega, Int.toNat_natCast, inR_week]
/-- the first half: what is written is read -/
theorem textI_back {n : Bs} {d f t : Int} (h : (bwC n && spanC d f t) = true) : ∃ d' f' t' : Nat, d = d' ∧ f = f' ∧ t = t' ∧ textI n d f t = (textT d' f' t', 0) ∧ parseH (textT d' f' t') = some (d', f', t') := by
  rw [Bool.and_eq_true] at h
  have hs := h.2
  have hs0 := hs
  unfold spanC at hs
  rw [decide_eq_true_eq] at hs
  obtain ⟨d, rfl⟩ := Int.eq_ofNat_of_zero_le (show 0 ≤ d by omega)
  obtain ⟨f, rfl⟩ := Int.eq_ofNat_of_zero_le (show 0 ≤ f by omega)
  obtain ⟨t, rfl⟩ := Int.eq_ofNat_of_zero_le (show 0 ≤ t by omega)
  refine ⟨d, f, t, rfl, rfl, rfl, ?_, parse_text hs0⟩
  unfold textI
  rw [h.1, hs0]
  simp
theorem parse_textI {s : Bs} {d f t : Nat} (h : parseH s = some (d, f, t)) : textI [120] (d : Int) (f : Int) (t : Int) = (s, 0) := by
  obtain ⟨h1, h2⟩ := parse_someH h
  unfold textI
  rw [show bwC [120] = true by decide, h1]
  simp [h2]
theorem textT_size {d f t : Nat} (h : spanC d f t = true) : (bytA (textT d f t)).size ≤ 100000 := by rw [bytA_size]; have := textT_len h; omega

set_option maxHeartbeats 6400000 in
set_option maxRecDepth 100000 in
theorem hoursBack_walk {w : World} (n : ByteArray) (d f t : Int) (wn : n.size ≤ maxLen) (_wd : (Lit.int .i64 d).wf = true) (_wf : (Lit.int .i64 f).wf = true) (_wt : (Lit.int .i64 t).wf = true) (s0 : ByteArray) (_ws : s0.size ≤ maxLen) (x : Int) (_wx : (Lit.int .i64 x).wf = true) (hw : HW w) :
    Calls Tryd.prog 5 #[.agg #[.string n, .int .i64 d, .int .i64 f, .int .i64 t], .string s0, .int .i64 x] w (BoolW true w) := by
  have hm1 : ∀ W (t : TypeId) (ts : Array TypeId), (Builtin.min_ ts t #[.int .i64 (s0.size : Int), .int .i64 60]).run Tryd.prog W = .ok (.int .i64 ((min s0.size 60 : Nat) : Int)) W := fun W t ts => run_minN W ts t s0.size 60
  have hs1 := fun W => run_cutN (P := Tryd.prog) W 9 60 s0 Tryd.underlying9
  have l1 := cutN_size 60 s0
  generalize cutN 60 s0 = S at *
  generalize min s0.size 60 = m1 at *
  have hcut := fun W => cut7_any n d f t W wn
  have hcz := cut7_size n
  generalize cut7 n = N at *
  have HAL := Lib.hid (fun W (h : Below w.heap.size w W) => alive_any W (hw.call h))
  have HT := Lib.hid (fun W (h : Below w.heap.size w W) => hText_any N d f t W hcz (hw.call h))
  have HPS := Lib.hid (fun W (h : Below w.heap.size w W) => hParse_any S W (hw.call h) (by omega))
  have hk0 := Blk.new w 33 #[.string n, .int .i64 d, .int .i64 f, .int .i64 t]
  have hb0 := (Below.refl w.heap.size w).alloc (Nat.le_refl _) (.cells #[.string n, .int .i64 d, .int .i64 f, .int .i64 t] 33)
  obtain ⟨T, r, hT0, hT10, hT20, hb10, hbl⟩ := tmod_parts x 549755813888 (by omega)
  have hT : x.tmod 549755813888 = T := hT0
  have hT1 : -549755813888 < T := hT10
  have hT2 : T < 549755813888 := hT20
  have hbk : (T + 549755813888).tmod 549755813888 = (r : Int) := hb10
  clear hT0 hT10 hT20 hb10
  have HI1 := Lib.hid (fun W => hIn_any N d f t (r : Int) W hcz)
  have hi2 := fun W => hIn_any N d f t ((r : Int) + 604800000) W hcz
  rw [inT_week _ _ _ _ _ hbl] at hi2
  have HI2 := Lib.hid hi2
  clear hi2
  generalize inT N.data.toList d f t (r : Int) = I at *
  go_enter Tryd.func5, Tryd.ntmps5
  go_upto_region 1 with fail
  go_cut [1] (fun sv wy => sv = .string S ∧ Blk wy w.heap.size 33 #[.string N, .int .i64 d, .int .i64 f, .int .i64 t] ∧ Below w.heap.size w wy)
  case first =>
    go_region_with (go_at_call 13; (with_reducible refine (hcut _).mono ?_); rintro e w2 ⟨rfl, hb2⟩; have hk2 := hk0.drew.call hb2; obtain ⟨c0, c1, c2, c3⟩ := hk2.cells4; have f0 := hk2.frozen 0; have f1 := hk2.frozen 1; have f2 := hk2.frozen 2; have f3 := hk2.frozen 3)
    all_goals
      go_wp2_with fail
      go_meet
      exact ⟨rfl, hk2.set4 _ _ _ _, below_set4 (bthen hb0.drew hb2) (Nat.le_refl _) _ _ _ _⟩
  case rest =>
  obtain ⟨rfl, hkx, hbx⟩ := hcut
  clear hk0 hb0 hm1 hs1 wn
  have HK := Lib.hid hkx
  have HB := Lib.hid hbx
  obtain ⟨c0, c1, c2, c3⟩ := hkx.cells4
  generalize wc = wx at *
  clear hkx hbx
  go_upto_region 3 with fail
  clear hT hT1 hT2 hbk
  cases hB : bwC N.data.toList && spanC d f t with
  | false =>
    have ht := fun W h => HT.out W h
    rw [show textI N.data.toList d f t = ([], 1) by unfold textI; rw [if_neg (by rw [hB]; simp)]] at ht
    unfold TextP at ht
    simp only at ht
    have HT1 := Lib.hid ht
    clear ht hB HT
    go_upto_region 9 with (go_at_call 14; (with_reducible refine (HT1.out _ HB.out).mono ?_); rintro e w3 ⟨rfl, hb3⟩)
    clear c0 c1 c2 c3
    cases hP : parseH S.data.toList with
    | none =>
      have hps := HPS.out w3 (bthen HB.out hb3)
      rw [hP] at hps
      have hps' := hps.mono (R' := fun e w' => e = .returned (.tuple #[.agg #[.string ⟨#[]⟩, .int .i64 0, .int .i64 0, .int .i64 0], .int .i64 6]) ∧ Below w3.heap.size w3 w') (fun _ _ h => h)
      clear hps hP
      go_upto_region 14 with (go_at_call 15; (with_reducible refine hps'.mono ?_); rintro e w5 ⟨rfl, hb5⟩)
      have hb14 := (bthen hb3 hb5).alloc (bthen hb3 hb5).size (.cells #[.string ⟨#[]⟩, .int .i64 0, .int .i64 0, .int .i64 0] 33)
      generalize w5.alloc (.cells #[.string ⟨#[]⟩, .int .i64 0, .int .i64 0, .int .i64 0] 33) = w14 at *
      obtain ⟨k0, k1, k2, k3⟩ := (HK.out.call hb14).cells4
      have j0 := fun xq => later_cell k0 xq
      have j1 := fun xq => later_cell k1 xq
      have j2 := fun xq => later_cell k2 xq
      have j3 := fun xq => later_cell k3 xq
      clear k0 k1 k2 k3
      have A1 := Lib.hid (fun xq => calls_later (HAL.out (later w14 xq) (bthen (bthen HB.out hb14) (later_below w14 xq))))
      have A2 := Lib.hid (fun xq => calls_later (HI1.out (later w14 xq)))
      have A3 := Lib.hid (fun xq => calls_later (HI2.out (later w14 xq)))
      have hbz := bthen HB.out hb14
      cases I
      all_goals
        refine wp_region_later (by kernel_rfl) (by kernel_rfl) ?_
        repeat (go_big_quiet_step (first | (go_at_call 21; with_reducible exact A1.out _) | (go_at_call 19; first | (with_reducible exact A2.out _) | (with_reducible exact A3.out _))))
        refine wpQuiet_nil ?_
        rintro _ ⟨xq, rfl⟩
        have hbf := bthen hbz (later_below w14 xq)
        generalize later w14 xq = w15 at *
        go_wp2_with fail
        go_ret
        exact ⟨rfl, hbf⟩
    | some v =>
      obtain ⟨d1, f1, t1⟩ := v
      have htx := parse_textI hP
      have hps := HPS.out w3 (bthen HB.out hb3)
      rw [hP] at hps
      have hps' := hps.mono (R' := fun e w' => e = .returned (.tuple #[.agg #[.string ⟨#[120]⟩, .int .i64 (d1 : Int), .int .i64 (f1 : Int), .int .i64 (t1 : Int)], .int .i64 0]) ∧ Below w3.heap.size w3 w') (fun _ _ h => h)
      have hte := fun W (h : Below w.heap.size w W) => hText_any ⟨#[120]⟩ (d1 : Int) (f1 : Int) (t1 : Int) W (by unfold maxLen; decide) (hw.call h)
      rw [show (⟨#[120]⟩ : ByteArray).data.toList = [120] from rfl, htx] at hte
      have hself : bytA S.data.toList = S := by apply bytes_ext; rw [bytA_list]
      unfold TextP at hte
      simp only at hte
      rw [hself] at hte
      have HTE := Lib.hid hte
      have hSS : (S.toList == S.toList) = true := by simp
      clear hps hP hte htx hself
      go_upto_region 14 with (first
        | (go_at_call 15; (with_reducible refine hps'.mono ?_); rintro e w5 ⟨rfl, hb5⟩; have hb5' := (bthen hb3 hb5).alloc (bthen hb3 hb5).size (.cells #[.string ⟨#[120]⟩, .int .i64 (d1 : Int), .int .i64 (f1 : Int), .int .i64 (t1 : Int)] 33))
        | (go_at_call 14; (with_reducible refine (HTE.out _ (bthen HB.out hb5')).mono ?_); rintro e w14 ⟨rfl, hb6⟩; have hb14 := bthen hb5' hb6))
      obtain ⟨k0, k1, k2, k3⟩ := (HK.out.call hb14).cells4
      have j0 := fun xq => later_cell k0 xq
      have j1 := fun xq => later_cell k1 xq
      have j2 := fun xq => later_cell k2 xq
      have j3 := fun xq => later_cell k3 xq
      clear k0 k1 k2 k3
      have A1 := Lib.hid (fun xq => calls_later (HAL.out (later w14 xq) (bthen (bthen HB.out hb14) (later_below w14 xq))))
      have A2 := Lib.hid (fun xq => calls_later (HI1.out (later w14 xq)))
      have A3 := Lib.hid (fun xq => calls_later (HI2.out (later w14 xq)))
      have hbz := bthen HB.out hb14
      cases I
      all_goals
        refine wp_region_later (by kernel_rfl) (by kernel_rfl) ?_
        repeat (go_big_quiet_step (first | (go_at_call 21; with_reducible exact A1.out _) | (go_at_call 19; first | (with_reducible exact A2.out _) | (with_reducible exact A3.out _))))
        refine wpQuiet_nil ?_
        rintro _ ⟨xq, rfl⟩
        have hbf := bthen hbz (later_below w14 xq)
        generalize later w14 xq = w15 at *
        go_wp2_with fail
        go_ret
        exact ⟨rfl, hbf⟩
  | true =>
    obtain ⟨d, f, t, rfl, rfl, rfl, htt, hpp⟩ := textI_back hB
    have ht := fun W h => HT.out W h
    rw [htt] at ht
    unfold TextP at ht
    simp only at ht
    have HT1 := Lib.hid ht
    rw [Bool.and_eq_true] at hB
    have hp := fun W (h : Below w.heap.size w W) => hParse_any (bytA (textT d f t)) W (hw.call h) (textT_size hB.2)
    rw [bytA_list, hpp] at hp
    have hp' := fun W h => (hp W h).mono (R' := fun e w' => e = .returned (.tuple #[.agg #[.string ⟨#[120]⟩, .int .i64 (d : Int), .int .i64 (f : Int), .int .i64 (t : Int)], .int .i64 0]) ∧ Below W.heap.size W w') (fun _ _ h => h)
    generalize bytA (textT d f t) = X at *
    have HP1 := Lib.hid hp'
    clear ht hp hp' htt hpp hB HT
    go_upto_region 7 with (first
      | (go_at_call 14; (with_reducible refine (HT1.out _ HB.out).mono ?_); rintro e w3 ⟨rfl, hb3⟩)
      | (go_at_call 15; (with_reducible refine (HP1.out _ (bthen HB.out hb3)).mono ?_); rintro e w4 ⟨rfl, hb4⟩; have hb4' := bthen hb3 hb4; have y0 := fun o => ((HK.out.call hb4').alloc o).cells4.1))
    clear y0 c0 c1 c2 c3
    have b9 := Blk.new w4 33 #[.string N, .int .i64 (d : Int), .int .i64 (f : Int), .int .i64 (t : Int)]
    have hb7 := hb4'.alloc hb4'.size (.cells #[.string N, .int .i64 (d : Int), .int .i64 (f : Int), .int .i64 (t : Int)] 33)
    generalize w4.alloc (.cells #[.string N, .int .i64 (d : Int), .int .i64 (f : Int), .int .i64 (t : Int)] 33) = w7 at *
    obtain ⟨c0, c1, c2, c3⟩ := b9.cells4
    obtain ⟨k0, k1, k2, k3⟩ := (HK.out.call hb7).cells4
    have hNN : (N.toList == N.toList) = true := by simp
    go_upto_region 9 with fail
    clear c0 c1 c2 c3 k0 k1 k2 k3 b9
    cases hP : parseH S.data.toList with
    | none =>
      have hps := HPS.out w7 (bthen HB.out hb7)
      rw [hP] at hps
      have hps' := hps.mono (R' := fun e w' => e = .returned (.tuple #[.agg #[.string ⟨#[]⟩, .int .i64 0, .int .i64 0, .int .i64 0], .int .i64 6]) ∧ Below w7.heap.size w7 w') (fun _ _ h => h)
      clear hps hP
      go_upto_region 14 with (go_at_call 15; (with_reducible refine hps'.mono ?_); rintro e w5 ⟨rfl, hb5⟩)
      have hb14 := (bthen hb7 hb5).alloc (bthen hb7 hb5).size (.cells #[.string ⟨#[]⟩, .int .i64 0, .int .i64 0, .int .i64 0] 33)
      generalize w5.alloc (.cells #[.string ⟨#[]⟩, .int .i64 0, .int .i64 0, .int .i64 0] 33) = w14 at *
      obtain ⟨k0, k1, k2, k3⟩ := (HK.out.call hb14).cells4
      have j0 := fun xq => later_cell k0 xq
      have j1 := fun xq => later_cell k1 xq
      have j2 := fun xq => later_cell k2 xq
      have j3 := fun xq => later_cell k3 xq
      clear k0 k1 k2 k3
      have A1 := Lib.hid (fun xq => calls_later (HAL.out (later w14 xq) (bthen (bthen HB.out hb14) (later_below w14 xq))))
      have A2 := Lib.hid (fun xq => calls_later (HI1.out (later w14 xq)))
      have A3 := Lib.hid (fun xq => calls_later (HI2.out (later w14 xq)))
      have hbz := bthen HB.out hb14
      cases I
      all_goals
        refine wp_region_later (by kernel_rfl) (by kernel_rfl) ?_
        repeat (go_big_quiet_step (first | (go_at_call 21; with_reducible exact A1.out _) | (go_at_call 19; first | (with_reducible exact A2.out _) | (with_reducible exact A3.out _))))
        refine wpQuiet_nil ?_
        rintro _ ⟨xq, rfl⟩
        have hbf := bthen hbz (later_below w14 xq)
        generalize later w14 xq = w15 at *
        go_wp2_with fail
        go_ret
        exact ⟨rfl, hbf⟩
    | some v =>
      obtain ⟨d1, f1, t1⟩ := v
      have htx := parse_textI hP
      have hps := HPS.out w7 (bthen HB.out hb7)
      rw [hP] at hps
      have hps' := hps.mono (R' := fun e w' => e = .returned (.tuple #[.agg #[.string ⟨#[120]⟩, .int .i64 (d1 : Int), .int .i64 (f1 : Int), .int .i64 (t1 : Int)], .int .i64 0]) ∧ Below w7.heap.size w7 w') (fun _ _ h => h)
      have hte := fun W (h : Below w.heap.size w W) => hText_any ⟨#[120]⟩ (d1 : Int) (f1 : Int) (t1 : Int) W (by unfold maxLen; decide) (hw.call h)
      rw [show (⟨#[120]⟩ : ByteArray).data.toList = [120] from rfl, htx] at hte
      have hself : bytA S.data.toList = S := by apply bytes_ext; rw [bytA_list]
      unfold TextP at hte
      simp only at hte
      rw [hself] at hte
      have HTE := Lib.hid hte
      have hSS : (S.toList == S.toList) = true := by simp
      clear hps hP hte htx hself
      go_upto_region 14 with (first
        | (go_at_call 15; (with_reducible refine hps'.mono ?_); rintro e w5 ⟨rfl, hb5⟩; have hb5' := (bthen hb7 hb5).alloc (bthen hb7 hb5).size (.cells #[.string ⟨#[120]⟩, .int .i64 (d1 : Int), .int .i64 (f1 : Int), .int .i64 (t1 : Int)] 33))
        | (go_at_call 14; (with_reducible refine (HTE.out _ (bthen HB.out hb5')).mono ?_); rintro e w14 ⟨rfl, hb6⟩; have hb14 := bthen hb5' hb6))
      obtain ⟨k0, k1, k2, k3⟩ := (HK.out.call hb14).cells4
      have j0 := fun xq => later_cell k0 xq
      have j1 := fun xq => later_cell k1 xq
      have j2 := fun xq => later_cell k2 xq
      have j3 := fun xq => later_cell k3 xq
      clear k0 k1 k2 k3
      have A1 := Lib.hid (fun xq => calls_later (HAL.out (later w14 xq) (bthen (bthen HB.out hb14) (later_below w14 xq))))
      have A2 := Lib.hid (fun xq => calls_later (HI1.out (later w14 xq)))
      have A3 := Lib.hid (fun xq => calls_later (HI2.out (later w14 xq)))
      have hbz := bthen HB.out hb14
      cases I
      all_goals
        refine wp_region_later (by kernel_rfl) (by kernel_rfl) ?_
        repeat (go_big_quiet_step (first | (go_at_call 21; with_reducible exact A1.out _) | (go_at_call 19; first | (with_reducible exact A2.out _) | (with_reducible exact A3.out _))))
        refine wpQuiet_nil ?_
        rintro _ ⟨xq, rfl⟩
        have hbf := bthen hbz (later_below w14 xq)
        generalize later w14 xq = w15 at *
        go_wp2_with fail
        go_ret
        exact ⟨rfl, hbf⟩
end Go.Proofs.YtekcmgajjbdmgabDoor
