/- The walk of the statement HoursCount: as many minutes of a week are within hours as their days have, each To less From of them. -/
import Derived.Test.YtekcmgajjbdmgabDoorHrsH
import Derived.Outline
namespace Go.Proofs.YtekcmgajjbdmgabDoor
open Go.RowKit

theorem bit_popT : ∀ d : Nat, d < 128 → ∀ k : Nat, k < 7 → bits BinOp.and IntKind.i64 ((d : Int) / 2 ^ k) 1 = ((d / 2 ^ k % 2 : Nat) : Int) := by decide +kernel
theorem popT_le (d : Nat) : ∀ k, popT d k ≤ k := by
  intro k
  induction k with
  | zero => exact Nat.le_refl _
  | succ k ih => unfold popT; omega
/-- as many minutes below m as are within -/
def cntC (n : Bs) (d f t : Int) (m : Nat) : Nat := if bwC n && spanC d f t then cntT d.toNat f.toNat t.toNat m else 0
theorem cntC_succ (n : Bs) (d f t : Int) (wk m : Nat) (hm : m < 10080) (hwk : wk < 1000) : cntC n d f t (m + 1) = cntC n d f t m + (if inT n d f t ((10080 * (wk : Int) + (m : Int)) * 60000 + 59999) then 1 else 0) := by
  unfold cntC inT
  cases h : bwC n && spanC d f t with
  | false => simp
  | true =>
    rw [Bool.and_eq_true] at h
    have hs := h.2
    unfold spanC at hs
    rw [decide_eq_true_eq] at hs
    have ht : tickC ((10080 * (wk : Int) + (m : Int)) * 60000 + 59999) = true := by unfold tickC; rw [decide_eq_true_eq]; omega
    rw [ht, if_pos rfl, if_pos rfl, cntT_succ _ _ _ _ (by omega) (by omega), ← inR_min d.toNat f.toNat t.toNat wk m hm]
    rw [show ((10080 * (wk : Int) + (m : Int)) * 60000 + 59999).toNat = (10080 * wk + m) * 60000 + 59999 by omega]
    simp
theorem cntC_le (n : Bs) (d f t : Int) (wk : Nat) (hwk : wk < 1000) : ∀ m, m ≤ 10080 → cntC n d f t m ≤ m := by
  intro m
  induction m with
  | zero => intro _; unfold cntC; split <;> simp [cntT_zero]
  | succ m ih =>
    intro hm
    rw [cntC_succ n d f t wk m (by omega) hwk]
    have := ih (by omega)
    split <;> omega
theorem tmod_parts (x : Int) (k : Nat) (hk : 0 < k) : ∃ T r, x.tmod (k : Int) = T ∧ -(k : Int) < T ∧ T < k ∧ (T + (k : Int)).tmod (k : Int) = ((r : Nat) : Int) ∧ r < k := by
  refine ⟨x.tmod k, ((x.tmod k + (k : Int)).tmod k).toNat, rfl, ?_, ?_, ?_, ?_⟩
  · have h1 := Int.tmod_lt_of_pos (-x) (show (0 : Int) < (k : Int) by omega)
    rw [Int.neg_tmod] at h1
    omega
  · exact Int.tmod_lt_of_pos x (by omega)
  · rw [Int.toNat_of_nonneg]
    have h1 := Int.tmod_lt_of_pos (-x) (show (0 : Int) < (k : Int) by omega)
    rw [Int.neg_tmod] at h1
    exact Int.tmod_nonneg _ (by omega)
  · have h1 := Int.tmod_lt_of_pos (x.tmod k + (k : Int)) (show (0 : Int) < (k : Int) by omega)
    have h2 := Int.tmod_lt_of_pos (-x) (show (0 : Int) < (k : Int) by omega)
    rw [Int.neg_tmod] at h2
    have h3 : 0 ≤ (x.tmod k + (k : Int)).tmod k := Int.tmod_nonneg _ (by omega)
    omega

set_option maxHeartbeats 3200000 in
set_option maxRecDepth 100000 in
theorem hoursCount_walk {w : World} (n : ByteArray) (d f t : Int) (wn : n.size ≤ maxLen) (_wd : (Lit.int .i64 d).wf = true) (_wf : (Lit.int .i64 f).wf = true) (_wt : (Lit.int .i64 t).wf = true) (week : Int) (_ww : (Lit.int .i64 week).wf = true) (hw : HW w) :
    Calls Tryd.prog 7 #[.agg #[.string n, .int .i64 d, .int .i64 f, .int .i64 t], .int .i64 week] w (BoolW true w) := by
  have hcut := fun W => cut7_any n d f t W wn
  have hcz := cut7_size n
  generalize cut7 n = N at *
  obtain ⟨T, wk, hT0, hT10, hT20, hwk0, hwl⟩ := tmod_parts week 1000 (by omega)
  have hT : week.tmod 1000 = T := hT0
  have hT1 : -1000 < T := hT10
  have hT2 : T < 1000 := hT20
  have hwk : (T + 1000).tmod 1000 = (wk : Int) := hwk0
  clear hT0 hT10 hT20 hwk0
  have hI := fun W x => hIn_any N d f t x W hcz
  have hR := fun W => hRight_any N d f t W hcz
  have hAl := fun W (h : Below w.heap.size w W) => alive_any W (hw.call h)
  have HCS := Lib.hid (fun m hm => cntC_succ N.data.toList d f t wk m hm hwl)
  have HCL := Lib.hid (cntC_le N.data.toList d f t wk hwl)
  have HI := Lib.hid hI
  have HR := Lib.hid hR
  have HAL := Lib.hid hAl
  clear hI hR hAl hw wn _wd _wf _wt _ww
  have hk0 := Blk.new w 33 #[.string n, .int .i64 d, .int .i64 f, .int .i64 t]
  have hb0 := (Below.refl w.heap.size w).alloc (Nat.le_refl _) (.cells #[.string n, .int .i64 d, .int .i64 f, .int .i64 t] 33)
  go_enter Tryd.func7, Tryd.ntmps7
  go_upto_region 2 with (go_at_call 13; (with_reducible refine (hcut _).mono ?_); rintro e w2 ⟨rfl, hb2⟩; have hk2 := hk0.call hb2; obtain ⟨c0, c1, c2, c3⟩ := hk2.cells4; have f0 := hk2.frozen 0; have f1 := hk2.frozen 1; have f2 := hk2.frozen 2; have f3 := hk2.frozen 3)
  have hkx := hk2.set4 (.string N) (.int .i64 d) (.int .i64 f) (.int .i64 t)
  have hbx := below_set4 (bthen hb0 hb2) (Nat.le_refl _) (.string N) (.int .i64 d) (.int .i64 f) (.int .i64 t)
  generalize (((w2.setCell ⟨w.heap.size, 0, none⟩ (.string N)).setCell ⟨w.heap.size, 1, none⟩ (.int .i64 d)).setCell ⟨w.heap.size, 2, none⟩ (.int .i64 f)).setCell ⟨w.heap.size, 3, none⟩ (.int .i64 t) = wx at *
  have HK := Lib.hid hkx
  have HB := Lib.hid hbx
  clear hk2 hk0 hb0 hb2 c0 c1 c2 c3 f0 f1 f2 f3 hcut
  clear hkx hbx
  go_upto_region 5 with fail
  clear hT hT1 hT2 hwk
  go_loopg [15, 5, 6] 10080 (fun gg iv u _ wr => ∃ m : Nat, m + gg = 10080 ∧ iv = .int .i64 (m : Int) ∧ u = .int .i64 ((cntC N.data.toList d f t m : Nat) : Int) ∧ Below wx.heap.size wx wr)
  case atStart => exact ⟨0, rfl, rfl, by rw [show cntC N.data.toList d f t 0 = 0 from Nat.le_zero.1 (HCL.out 0 (by omega))]; rfl, Below.refl _ _⟩
  case round =>
    obtain ⟨m, hmg, rfl, rfl, hwr⟩ := hrel
    obtain ⟨c0, c1, c2, c3⟩ := (HK.out.call hwr).cells4
    cases gk with
    | zero =>
      obtain rfl : m = 10080 := by omega
      have hr := HR.out wr
      have hcl := HCL.out 10080 (by omega)
      have hcc : cntC N.data.toList d f t 10080 = if bwC N.data.toList && spanC d f t then cntT d.toNat f.toNat t.toNat 10080 else 0 := rfl
      generalize cntC N.data.toList d f t 10080 = C at *
      cases hB : bwC N.data.toList && spanC d f t with
      | false =>
        rw [hB] at hr hcc
        rw [if_neg (by simp)] at hcc
        subst hcc
        clear hB hcl
        go_wp2_with (first
          | (go_at_call 17; (with_reducible refine hr.mono ?_); rintro e w4 ⟨rfl, hb4⟩; have hb4' := bthen hwr hb4)
          | (go_at_call 21; (with_reducible refine (HAL.out _ (bthen HB.out hb4')).mono ?_); rintro e w5 ⟨rfl, hb5⟩))
        go_ret
        exact ⟨rfl, bthen HB.out (bthen hb4' hb5)⟩
      | true =>
        rw [hB] at hr hcc
        rw [if_pos rfl] at hcc
        rw [Bool.and_eq_true] at hB
        have hs := hB.2
        unfold spanC at hs
        rw [decide_eq_true_eq] at hs
        obtain ⟨d, rfl⟩ := Int.eq_ofNat_of_zero_le (show 0 ≤ d by omega)
        obtain ⟨f, rfl⟩ := Int.eq_ofNat_of_zero_le (show 0 ≤ f by omega)
        obtain ⟨t, rfl⟩ := Int.eq_ofNat_of_zero_le (show 0 ≤ t by omega)
        simp only [Int.toNat_natCast] at hcc
        have hd : d < 128 := by omega
        rw [cntT_all d f t hd] at hcc
        have hfin : ((popT d 7 : Nat) : Int) * ((t : Int) - (f : Int)) = (C : Int) := by
          rw [hcc, Int.natCast_mul, Int.natCast_sub (by omega)]
        have HF := Lib.hid (And.intro hfin hcl)
        have hft : f < t ∧ t ≤ 1440 := by omega
        have HFT := Lib.hid hft
        clear hB hs hcc hcl hfin hft
        go_upto_region 14 with (go_at_call 17; (with_reducible refine hr.mono ?_); rintro e w4 ⟨rfl, hb4⟩; have hb4' := bthen hwr hb4)
        have hk4 := HK.out.call hb4'
        go_loopg [37, 7, 8] 7 (fun gg iv u _ wq => ∃ k : Nat, k + gg = 7 ∧ iv = .int .i64 (k : Int) ∧ u = .int .i64 ((popT d k : Nat) : Int) ∧ w4 = wq)
        case atStart => exact ⟨0, rfl, rfl, rfl, rfl⟩
        case round =>
          obtain ⟨k, hkg, rfl, rfl, rfl⟩ := hrel
          obtain ⟨c0, c1, c2, c3⟩ := hk4.cells4
          cases gk with
          | zero =>
            obtain rfl : k = 7 := by omega
            obtain ⟨hfin, hcl⟩ := HF.out
            obtain ⟨g1, g2⟩ := HFT.out
            generalize popT d 7 = P at *
            clear c0 c1 c2 c3 HF
            go_wp2_with (go_at_call 21; (with_reducible refine (HAL.out _ (bthen HB.out hb4')).mono ?_); rintro e w5 ⟨rfl, hb5⟩; obtain ⟨c0, c1, c2, c3⟩ := (hk4.call hb5).cells4)
            go_ret
            exact ⟨rfl, bthen HB.out (bthen hb4' hb5)⟩
          | succ g =>
            have hbp := bit_popT d hd k (by omega)
            have hps : popT d (k + 1) = popT d k + d / 2 ^ k % 2 := rfl
            have hpl := popT_le d k
            have hk7 : k < 7 := by omega
            generalize popT d k = P at *
            obtain ⟨b, hbb⟩ : ∃ b, d / 2 ^ k % 2 = b := ⟨_, rfl⟩
            have hb2 : b < 2 := by omega
            rw [hbb] at hbp hps
            have HPS := Lib.hid hps
            clear hps hbb
            go_wp2_with fail
            go_roundg g
            case measure => omega
            case rel => exact ⟨k + 1, by omega, by go_num, by rw [HPS.out]; go_num, rfl⟩
    | succ g =>
      have hstep := HCS.out m (by omega)
      have hcl := HCL.out m (by omega)
      have hi := HI.out wr ((10080 * (wk : Int) + (m : Int)) * 60000 + 59999)
      generalize cntC N.data.toList d f t m = C at *
      have hm : m < 10080 := by omega
      cases hb : inT N.data.toList d f t ((10080 * (wk : Int) + (m : Int)) * 60000 + 59999) with
      | false =>
        rw [hb] at hstep hi
        rw [if_neg (by simp)] at hstep
        have HS := Lib.hid hstep
        clear hstep hb
        go_wp2_with (go_at_call 19; (with_reducible refine hi.mono ?_); rintro e w4 ⟨rfl, hb4⟩)
        go_roundg g
        case measure => omega
        case rel => exact ⟨m + 1, by omega, by go_num, by rw [HS.out]; rfl, bthen hwr hb4⟩
      | true =>
        rw [hb] at hstep hi
        rw [if_pos rfl] at hstep
        have HS := Lib.hid hstep
        clear hstep hb
        go_wp2_with (go_at_call 19; (with_reducible refine hi.mono ?_); rintro e w4 ⟨rfl, hb4⟩)
        go_roundg g
        case measure => omega
        case rel => exact ⟨m + 1, by omega, by go_num, by rw [HS.out]; go_num, bthen hwr hb4⟩
end Go.Proofs.YtekcmgajjbdmgabDoor
