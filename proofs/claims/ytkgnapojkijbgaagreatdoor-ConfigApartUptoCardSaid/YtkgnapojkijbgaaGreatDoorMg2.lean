/- The contract of config.Right. -/
import Derived.Test.YtkgnapojkijbgaaGreatDoorMg1
import Derived.Test.YtkgnapojkijbgaaGreatDoorCfgA
import Derived.Shelf.SlSortCmp.NoneTotal
import Derived.Test.YtkgnapojkijbgaaGreatDoorCfgD
import Derived.Shelf.SlSortCmp.QuietGrown
import Derived.Shelf.SlicesE.Clone
import Derived.Test.YtkgnapojkijbgaaGreatDoorMatD0
import Derived.Test.YtkgnapojkijbgaaGreatDoorMatS
import Derived.Lib.SmallJoins
import Derived.Test.YtkgnapojkijbgaaGreatDoorShelf
import Derived.Deep.RegionHeld3
import Derived.Test.YtkgnapojkijbgaaGreatDoorRows
import Derived.Test.YtkgnapojkijbgaaGreatDoorLib
import Derived.Test.YtkgnapojkijbgaaGreatDoorInfo
import Derived.BigQuiet
import Derived.Deep.QuietTactic
namespace Go.Proofs.YtkgnapojkijbgaaGreatDoor
open Go.RowKit

/-- may a configuration be? -/
def cfgC (k : CfA) : Bool := (decide (k.ru.length ≤ 16) && k.ru.all RuA.good) && (onceS (k.ru.map RuA.name) && ((decide (k.re.length ≤ 16) && k.re.all (fun s => bwC s.data.toList)) && (onceS k.re && ((decide (k.ih.length ≤ 8) && k.ih.all InA.good) && ((decide (k.hr.length ≤ 8) && k.hr.all HrA.good) && (onceS (k.hr.map HrA.n) && routeC k))))))
set_option maxHeartbeats 12800000 in
set_option maxRecDepth 100000 in
theorem cfgRight_any (k : CfA) (w : World) (h : k.ok w) : Calls Tryz.prog 17 #[.agg (kCells k)] w (BoolB (cfgC k) w) := by
  have hb := (Below.refl w.heap.size w).alloc (Nat.le_refl _) (.cells (kCells k) 31)
  have hA := Blk.new w 31 (kCells k)
  have H1 := Lib.hid (fun W (hW : Below w.heap.size w W) => allR_any k.ua k.uc k.ru 16 W (h.1.keep hW))
  have H2 := Lib.hid (fun (h8 : k.ru.length ≤ 1000000) W (hW : Below w.heap.size w W) => eachR_any k.ua k.uc k.ru W (h.1.keep hW) h8)
  have H3 := Lib.hid (fun W (hW : Below w.heap.size w W) => allS_any k.ra k.rc k.re 16 W (h.2.2.1.call hW))
  have H4 := Lib.hid (fun (h8 : k.re.length ≤ 1000000) W (hW : Below w.heap.size w W) => once_any k.ra k.rc k.re W (h.2.2.1.call hW) h8)
  have H5 := Lib.hid (fun W (hW : Below w.heap.size w W) => allI_any k.ia k.ic k.ih 8 W (h.2.2.2.1.keep hW))
  have H6 := Lib.hid (fun W (hW : Below w.heap.size w W) => allH_any k.ha k.hc k.hr 8 W (h.2.2.2.2.keep hW))
  have H7 := Lib.hid (fun (h8 : k.hr.length ≤ 1000000) W (hW : Below w.heap.size w W) => eachH_any k.ha k.hc k.hr W (h.2.2.2.2.keep hW) h8)
  have H8 := Lib.hid (fun (h8 : k.hr.length ≤ 1000000) W (hW : Below w.heap.size w W) => cfgRoute_any k W (h.call hW) h8)
  obtain ⟨RN, hRN⟩ : ∃ N, k.ru.map RuA.name = N := ⟨_, rfl⟩
  obtain ⟨HN, hHN⟩ : ∃ N, k.hr.map HrA.n = N := ⟨_, rfl⟩
  have hs1 : ∀ s ∈ RN, s.size ≤ maxLen := fun s hs => by
    rw [← hRN] at hs
    obtain ⟨x, hx, rfl⟩ := List.mem_map.1 hs
    exact (h.1.2.2.1 x hx).2.1
  have hs2 : ∀ s ∈ HN, s.size ≤ maxLen := fun s hs => by
    rw [← hHN] at hs
    obtain ⟨x, hx, rfl⟩ := List.mem_map.1 hs
    exact (h.2.2.2.2.2.2.1 x hx).1
  have HS1 := Lib.hid hs1
  have HS2 := Lib.hid hs2
  have hl1 : RN.length = k.ru.length := by rw [← hRN, List.length_map]
  have hl2 : HN.length = k.hr.length := by rw [← hHN, List.length_map]
  have HO1 := Lib.hid (fun (h8 : k.ru.length ≤ 1000000) W a c (hx : HasStrs W a c RN) => once_any a c RN W hx (by rw [hl1]; exact h8))
  have HO2 := Lib.hid (fun (h8 : k.hr.length ≤ 1000000) W a c (hx : HasStrs W a c HN) => once_any a c HN W hx (by rw [hl2]; exact h8))
  have hR : cfgC k = ((decide (k.ru.length ≤ 16) && k.ru.all RuA.good) && (onceS RN && ((decide (k.re.length ≤ 16) && k.re.all (fun s => bwC s.data.toList)) && (onceS k.re && ((decide (k.ih.length ≤ 8) && k.ih.all InA.good) && ((decide (k.hr.length ≤ 8) && k.hr.all HrA.good) && (onceS HN && routeC k))))))) := by rw [← hRN, ← hHN]; rfl
  rw [hR]
  have L1 := Lib.hid (show (decide (k.ru.length ≤ 16) && k.ru.all RuA.good) = true → k.ru.length ≤ 1000000 from fun e => by
    simp only [Bool.and_eq_true, decide_eq_true_eq] at e
    omega)
  have L3 := Lib.hid (show (decide (k.re.length ≤ 16) && k.re.all (fun s => bwC s.data.toList)) = true → k.re.length ≤ 1000000 from fun e => by
    simp only [Bool.and_eq_true, decide_eq_true_eq] at e
    omega)
  have L6 := Lib.hid (show (decide (k.hr.length ≤ 8) && k.hr.all HrA.good) = true → k.hr.length ≤ 1000000 from fun e => by
    simp only [Bool.and_eq_true, decide_eq_true_eq] at e
    omega)
  rw [show (((16 : Nat) : Int)) = 16 from rfl] at H1 H3
  rw [show (((8 : Nat) : Int)) = 8 from rfl] at H5 H6
  simp only [hRN] at H2
  simp only [hHN] at H7
  generalize (decide (k.ru.length ≤ 16) && k.ru.all RuA.good) = B1 at *
  generalize onceS RN = B2 at *
  generalize (decide (k.re.length ≤ 16) && k.re.all (fun s => bwC s.data.toList)) = B3 at *
  generalize onceS k.re = B4 at *
  generalize (decide (k.ih.length ≤ 8) && k.ih.all InA.good) = B5 at *
  generalize (decide (k.hr.length ≤ 8) && k.hr.all HrA.good) = B6 at *
  generalize onceS HN = B7 at *
  generalize routeC k = B8 at *
  have HB := Lib.hid hb
  clear hb h hR hs1 hs2 hRN hHN hl1 hl2
  obtain ⟨ru, ua, uc, ⟨n, ma, mc, ba, bc, ma', mc', ka, kc⟩, re, ra, rc, ih, ia, ic, hr, ha, hc⟩ := k
  simp only [kCells] at *
  go_enter Tryz.func17, Tryz.ntmps17
  go_upto_region 1 with fail
  obtain ⟨g, hg⟩ : ∃ g, w.heap.size = g := ⟨_, rfl⟩
  generalize w.alloc (.cells #[.slice ua ru.length uc, .string n.recv, .slice ma n.ms.length mc, .slice ba n.bys.length bc, .int .i64 n.wait, .int .i64 n.every, .int .i64 n.rep, .slice ma' n.mute.length mc', .bool n.on, .slice ka n.kids.length kc, .slice ra re.length rc, .slice ia ih.length ic, .slice ha hr.length hc] 31) = wx at *
  rw [hg] at hA ⊢
  clear hg
  have HAC := Lib.hid (fun W (hW : Below wx.heap.size wx W) => (hA.call hW).cells13)
  have c0 := hA.cells13.1
  clear hA
  cases B1
  case false =>
    go_wp2_with (first
      | (go_at_call 49; (with_reducible refine (H1.out _ HB.out).mono ?_); rintro e w2 ⟨rfl, hb2⟩; have q2 := hb2; have k2 := (HAC.out _ q2).1))
    go_ret
    exact ⟨by first | rfl | simp, bthen HB.out q2⟩
  have l1 := Lib.hid (L1.out rfl)
  clear L1
  cases B2
  case false =>
    go_wp2_with (first
      | (go_at_call 49; (with_reducible refine (H1.out _ HB.out).mono ?_); rintro e w2 ⟨rfl, hb2⟩; have q2 := hb2; have k2 := (HAC.out _ q2).1)
      | (go_at_call 52; (with_reducible refine (H2.out l1.out _ (bthen HB.out q2)).mono ?_); rintro e w3 ⟨v3, rfl, ho3, hb3⟩; obtain ⟨na, nc, rfl, hn3⟩ := ho3.strs HS1.out; have q3 := bthen q2 hb3)
      | (go_at_call 51; (with_reducible refine (HO1.out l1.out _ na nc hn3).mono ?_); rintro e w4 ⟨rfl, hb4⟩; have q4 := bthen q3 hb4; have k4 := (HAC.out _ q4).2.2.2.2.2.2.2.2.2.2.1))
    go_ret
    exact ⟨by first | rfl | simp, bthen HB.out q4⟩
  cases B3
  case false =>
    go_wp2_with (first
      | (go_at_call 49; (with_reducible refine (H1.out _ HB.out).mono ?_); rintro e w2 ⟨rfl, hb2⟩; have q2 := hb2; have k2 := (HAC.out _ q2).1)
      | (go_at_call 52; (with_reducible refine (H2.out l1.out _ (bthen HB.out q2)).mono ?_); rintro e w3 ⟨v3, rfl, ho3, hb3⟩; obtain ⟨na, nc, rfl, hn3⟩ := ho3.strs HS1.out; have q3 := bthen q2 hb3)
      | (go_at_call 51; (with_reducible refine (HO1.out l1.out _ na nc hn3).mono ?_); rintro e w4 ⟨rfl, hb4⟩; have q4 := bthen q3 hb4; have k4 := (HAC.out _ q4).2.2.2.2.2.2.2.2.2.2.1)
      | (go_at_call 54; (with_reducible refine (H3.out _ (bthen HB.out q4)).mono ?_); rintro e w5 ⟨rfl, hb5⟩; have q5 := bthen q4 hb5; have k5 := (HAC.out _ q5).2.2.2.2.2.2.2.2.2.2.1))
    go_ret
    exact ⟨by first | rfl | simp, bthen HB.out q5⟩
  have l3 := Lib.hid (L3.out rfl)
  clear L3
  cases B4
  case false =>
    go_wp2_with (first
      | (go_at_call 49; (with_reducible refine (H1.out _ HB.out).mono ?_); rintro e w2 ⟨rfl, hb2⟩; have q2 := hb2; have k2 := (HAC.out _ q2).1)
      | (go_at_call 52; (with_reducible refine (H2.out l1.out _ (bthen HB.out q2)).mono ?_); rintro e w3 ⟨v3, rfl, ho3, hb3⟩; obtain ⟨na, nc, rfl, hn3⟩ := ho3.strs HS1.out; have q3 := bthen q2 hb3)
      | (go_at_call 51; (with_reducible refine (HO1.out l1.out _ na nc hn3).mono ?_); rintro e w4 ⟨rfl, hb4⟩; have q4 := bthen q3 hb4; have k4 := (HAC.out _ q4).2.2.2.2.2.2.2.2.2.2.1)
      | (go_at_call 54; (with_reducible refine (H3.out _ (bthen HB.out q4)).mono ?_); rintro e w5 ⟨rfl, hb5⟩; have q5 := bthen q4 hb5; have k5 := (HAC.out _ q5).2.2.2.2.2.2.2.2.2.2.1)
      | (go_at_call 51; (with_reducible refine (H4.out l3.out _ (bthen HB.out q5)).mono ?_); rintro e w6 ⟨rfl, hb6⟩; have q6 := bthen q5 hb6; have k6 := (HAC.out _ q6).2.2.2.2.2.2.2.2.2.2.2.1))
    go_ret
    exact ⟨by first | rfl | simp, bthen HB.out q6⟩
  cases B5
  case false =>
    go_wp2_with (first
      | (go_at_call 49; (with_reducible refine (H1.out _ HB.out).mono ?_); rintro e w2 ⟨rfl, hb2⟩; have q2 := hb2; have k2 := (HAC.out _ q2).1)
      | (go_at_call 52; (with_reducible refine (H2.out l1.out _ (bthen HB.out q2)).mono ?_); rintro e w3 ⟨v3, rfl, ho3, hb3⟩; obtain ⟨na, nc, rfl, hn3⟩ := ho3.strs HS1.out; have q3 := bthen q2 hb3)
      | (go_at_call 51; (with_reducible refine (HO1.out l1.out _ na nc hn3).mono ?_); rintro e w4 ⟨rfl, hb4⟩; have q4 := bthen q3 hb4; have k4 := (HAC.out _ q4).2.2.2.2.2.2.2.2.2.2.1)
      | (go_at_call 54; (with_reducible refine (H3.out _ (bthen HB.out q4)).mono ?_); rintro e w5 ⟨rfl, hb5⟩; have q5 := bthen q4 hb5; have k5 := (HAC.out _ q5).2.2.2.2.2.2.2.2.2.2.1)
      | (go_at_call 51; (with_reducible refine (H4.out l3.out _ (bthen HB.out q5)).mono ?_); rintro e w6 ⟨rfl, hb6⟩; have q6 := bthen q5 hb6; have k6 := (HAC.out _ q6).2.2.2.2.2.2.2.2.2.2.2.1)
      | (go_at_call 56; (with_reducible refine (H5.out _ (bthen HB.out q6)).mono ?_); rintro e w7 ⟨rfl, hb7⟩; have q7 := bthen q6 hb7; have k7 := (HAC.out _ q7).2.2.2.2.2.2.2.2.2.2.2.2))
    go_ret
    exact ⟨by first | rfl | simp, bthen HB.out q7⟩
  cases B6
  case false =>
    go_wp2_with (first
      | (go_at_call 49; (with_reducible refine (H1.out _ HB.out).mono ?_); rintro e w2 ⟨rfl, hb2⟩; have q2 := hb2; have k2 := (HAC.out _ q2).1)
      | (go_at_call 52; (with_reducible refine (H2.out l1.out _ (bthen HB.out q2)).mono ?_); rintro e w3 ⟨v3, rfl, ho3, hb3⟩; obtain ⟨na, nc, rfl, hn3⟩ := ho3.strs HS1.out; have q3 := bthen q2 hb3)
      | (go_at_call 51; (with_reducible refine (HO1.out l1.out _ na nc hn3).mono ?_); rintro e w4 ⟨rfl, hb4⟩; have q4 := bthen q3 hb4; have k4 := (HAC.out _ q4).2.2.2.2.2.2.2.2.2.2.1)
      | (go_at_call 54; (with_reducible refine (H3.out _ (bthen HB.out q4)).mono ?_); rintro e w5 ⟨rfl, hb5⟩; have q5 := bthen q4 hb5; have k5 := (HAC.out _ q5).2.2.2.2.2.2.2.2.2.2.1)
      | (go_at_call 51; (with_reducible refine (H4.out l3.out _ (bthen HB.out q5)).mono ?_); rintro e w6 ⟨rfl, hb6⟩; have q6 := bthen q5 hb6; have k6 := (HAC.out _ q6).2.2.2.2.2.2.2.2.2.2.2.1)
      | (go_at_call 56; (with_reducible refine (H5.out _ (bthen HB.out q6)).mono ?_); rintro e w7 ⟨rfl, hb7⟩; have q7 := bthen q6 hb7; have k7 := (HAC.out _ q7).2.2.2.2.2.2.2.2.2.2.2.2)
      | (go_at_call 58; (with_reducible refine (H6.out _ (bthen HB.out q7)).mono ?_); rintro e w8 ⟨rfl, hb8⟩; have q8 := bthen q7 hb8; have k8 := (HAC.out _ q8).2.2.2.2.2.2.2.2.2.2.2.2))
    go_ret
    exact ⟨by first | rfl | simp, bthen HB.out q8⟩
  have l6 := Lib.hid (L6.out rfl)
  clear L6
  cases B7
  case false =>
    go_wp2_with (first
      | (go_at_call 49; (with_reducible refine (H1.out _ HB.out).mono ?_); rintro e w2 ⟨rfl, hb2⟩; have q2 := hb2; have k2 := (HAC.out _ q2).1)
      | (go_at_call 52; (with_reducible refine (H2.out l1.out _ (bthen HB.out q2)).mono ?_); rintro e w3 ⟨v3, rfl, ho3, hb3⟩; obtain ⟨na, nc, rfl, hn3⟩ := ho3.strs HS1.out; have q3 := bthen q2 hb3)
      | (go_at_call 51; (with_reducible refine (HO1.out l1.out _ na nc hn3).mono ?_); rintro e w4 ⟨rfl, hb4⟩; have q4 := bthen q3 hb4; have k4 := (HAC.out _ q4).2.2.2.2.2.2.2.2.2.2.1)
      | (go_at_call 54; (with_reducible refine (H3.out _ (bthen HB.out q4)).mono ?_); rintro e w5 ⟨rfl, hb5⟩; have q5 := bthen q4 hb5; have k5 := (HAC.out _ q5).2.2.2.2.2.2.2.2.2.2.1)
      | (go_at_call 51; (with_reducible refine (H4.out l3.out _ (bthen HB.out q5)).mono ?_); rintro e w6 ⟨rfl, hb6⟩; have q6 := bthen q5 hb6; have k6 := (HAC.out _ q6).2.2.2.2.2.2.2.2.2.2.2.1)
      | (go_at_call 56; (with_reducible refine (H5.out _ (bthen HB.out q6)).mono ?_); rintro e w7 ⟨rfl, hb7⟩; have q7 := bthen q6 hb7; have k7 := (HAC.out _ q7).2.2.2.2.2.2.2.2.2.2.2.2)
      | (go_at_call 58; (with_reducible refine (H6.out _ (bthen HB.out q7)).mono ?_); rintro e w8 ⟨rfl, hb8⟩; have q8 := bthen q7 hb8; have k8 := (HAC.out _ q8).2.2.2.2.2.2.2.2.2.2.2.2)
      | (go_at_call 60; (with_reducible refine (H7.out l6.out _ (bthen HB.out q8)).mono ?_); rintro e w9 ⟨v9, rfl, ho9, hb9⟩; obtain ⟨ma9, mc9, rfl, hn9⟩ := ho9.strs HS2.out; have q9 := bthen q8 hb9)
      | (go_at_call 51; (with_reducible refine (HO2.out l6.out _ ma9 mc9 hn9).mono ?_); rintro e w10 ⟨rfl, hb10⟩; have q10 := bthen q9 hb10; obtain ⟨p10_0, p10_1, p10_2, p10_3, p10_4, p10_5, p10_6, p10_7, p10_8, p10_9, p10_10, p10_11, p10_12⟩ := HAC.out _ q10))
    go_ret
    exact ⟨by first | rfl | simp, bthen HB.out q10⟩
  go_wp2_with (first
    | (go_at_call 49; (with_reducible refine (H1.out _ HB.out).mono ?_); rintro e w2 ⟨rfl, hb2⟩; have q2 := hb2; have k2 := (HAC.out _ q2).1)
    | (go_at_call 52; (with_reducible refine (H2.out l1.out _ (bthen HB.out q2)).mono ?_); rintro e w3 ⟨v3, rfl, ho3, hb3⟩; obtain ⟨na, nc, rfl, hn3⟩ := ho3.strs HS1.out; have q3 := bthen q2 hb3)
    | (go_at_call 51; (with_reducible refine (HO1.out l1.out _ na nc hn3).mono ?_); rintro e w4 ⟨rfl, hb4⟩; have q4 := bthen q3 hb4; have k4 := (HAC.out _ q4).2.2.2.2.2.2.2.2.2.2.1)
    | (go_at_call 54; (with_reducible refine (H3.out _ (bthen HB.out q4)).mono ?_); rintro e w5 ⟨rfl, hb5⟩; have q5 := bthen q4 hb5; have k5 := (HAC.out _ q5).2.2.2.2.2.2.2.2.2.2.1)
    | (go_at_call 51; (with_reducible refine (H4.out l3.out _ (bthen HB.out q5)).mono ?_); rintro e w6 ⟨rfl, hb6⟩; have q6 := bthen q5 hb6; have k6 := (HAC.out _ q6).2.2.2.2.2.2.2.2.2.2.2.1)
    | (go_at_call 56; (with_reducible refine (H5.out _ (bthen HB.out q6)).mono ?_); rintro e w7 ⟨rfl, hb7⟩; have q7 := bthen q6 hb7; have k7 := (HAC.out _ q7).2.2.2.2.2.2.2.2.2.2.2.2)
    | (go_at_call 58; (with_reducible refine (H6.out _ (bthen HB.out q7)).mono ?_); rintro e w8 ⟨rfl, hb8⟩; have q8 := bthen q7 hb8; have k8 := (HAC.out _ q8).2.2.2.2.2.2.2.2.2.2.2.2)
    | (go_at_call 60; (with_reducible refine (H7.out l6.out _ (bthen HB.out q8)).mono ?_); rintro e w9 ⟨v9, rfl, ho9, hb9⟩; obtain ⟨ma9, mc9, rfl, hn9⟩ := ho9.strs HS2.out; have q9 := bthen q8 hb9)
    | (go_at_call 51; (with_reducible refine (HO2.out l6.out _ ma9 mc9 hn9).mono ?_); rintro e w10 ⟨rfl, hb10⟩; have q10 := bthen q9 hb10; obtain ⟨p10_0, p10_1, p10_2, p10_3, p10_4, p10_5, p10_6, p10_7, p10_8, p10_9, p10_10, p10_11, p10_12⟩ := HAC.out _ q10)
    | (go_at_call 62; (with_reducible refine (H8.out l6.out _ (bthen HB.out q10)).mono ?_); rintro e w11 ⟨rfl, hb11⟩; have q11 := bthen q10 hb11))
  go_ret
  exact ⟨by first | rfl | simp, bthen HB.out q11⟩
end Go.Proofs.YtkgnapojkijbgaaGreatDoor
/- Rows of structs of the call's own: what a sort makes of them. It speaks of no one program. -/
namespace Go.Proofs.YtkgnapojkijbgaaGreatDoor
open Go.RowKit Go.Sort Go.Lib Go.Shelf

section
variable {A : Type} [Inhabited A] {enc : A → List Value} {k : Nat}
def rowV (enc : A → List Value) (xs : List A) : List Value := xs.flatMap enc
omit [Inhabited A] in
theorem rowV_len (hk : ∀ x, (enc x).length = k) (xs : List A) : (rowV enc xs).length = xs.length * k := by
  induction xs with
  | nil => simp [rowV]
  | cons x xs ih =>
    have e : rowV enc (x :: xs) = enc x ++ rowV enc xs := rfl
    rw [e, List.length_append, ih, hk, List.length_cons, Nat.succ_mul]
    omega
omit [Inhabited A] in
theorem rowV_get (hk : ∀ x, (enc x).length = k) (xs : List A) (i : Nat) (h : i < xs.length) (j : Nat) (hj : j < k) : (rowV enc xs)[i * k + j]? = (enc xs[i])[j]? := by
  induction xs generalizing i with
  | nil => simp at h
  | cons x xs ih =>
    have e : rowV enc (x :: xs) = enc x ++ rowV enc xs := rfl
    cases i with
    | zero =>
      rw [e, Nat.zero_mul, Nat.zero_add, List.getElem?_append_left (by rw [hk]; exact hj)]
      rfl
    | succ i =>
      rw [e, List.getElem?_append_right (by rw [hk, Nat.succ_mul]; omega), hk, show (i + 1) * k + j - k = i * k + j by rw [Nat.succ_mul]; omega, ih i (by simpa using h)]
      rfl
omit [Inhabited A] in
theorem rowV_app (a b : List A) : rowV enc (a ++ b) = rowV enc a ++ rowV enc b := by simp [rowV]
theorem flat_row (hk : ∀ x, (enc x).length = k) (xs : List A) : flatK enc k xs.toArray = (rowV enc xs).toArray := by
  refine ext_get! (by simp [rowV_len hk]) fun t ht => ?_
  have ht' : t < xs.length * k := by simpa using ht
  rw [get_flatK _ _ _ t (by simpa using ht')]
  have k0 : 0 < k := by rcases Nat.eq_zero_or_pos k with h | h; · subst h; simp at ht'
                        · exact h
  have hi : t / k < xs.length := (Nat.div_lt_iff_lt_mul k0).2 ht'
  have hj := Nat.mod_lt t k0
  have g := rowV_get hk xs (t / k) hi (t % k) hj
  rw [Nat.div_add_mod' t k] at g
  have e0 : (xs.toArray[t / k]!) = xs[t / k] := by simp [hi]
  rw [e0]
  simp [Array.getElem!_eq_getD, Array.getD_eq_getD_getElem?, g]
/-- v is the call's own slice of the things xs -/
def OwnX (T : TypeId) (k : Nat) (enc : A → List Value) (w : World) (base : Nat) (v : Value) (xs : List A) : Prop := w.ownsRow base T k v xs.length (rowV enc xs)
omit [Inhabited A] in
theorem OwnX.call {T : TypeId} {w w1 : World} {base : Nat} {v : Value} {xs : List A} (h : OwnX T k enc w base v xs) (hb : Below w.heap.size w w1) : OwnX T k enc w1 base v xs :=
  World.ownsRow.kept h (row := none) ⟨hb.os, hb.tape, hb.output, hb.size, fun k hk _ => hb.block k hk⟩ (by cases v.ownBlock <;> simp)
omit [Inhabited A] in
theorem OwnX.nil (T : TypeId) (w : World) (base : Nat) : OwnX T k enc w base (.slice none 0 0) [] := World.ownsRow_nil _ _ _ _
omit [Inhabited A] in
theorem OwnX.base {T : TypeId} {w : World} {b0 base : Nat} {v : Value} {xs : List A} (h : OwnX T k enc w base v xs) (hb : b0 ≤ base) : OwnX T k enc w b0 v xs := by
  obtain ⟨ha, hr⟩ := h
  refine ⟨ha, hr.imp id ?_⟩
  rintro ⟨g, cap', cur, e1, e2, e3⟩
  exact ⟨g, cap', cur, e1, by omega, e3⟩
theorem OwnX.holds {T : TypeId} {w : World} {base g cap : Nat} {xs : List A} (hk : ∀ x, (enc x).length = k) (h : OwnX T k enc w base (.slice (some ⟨g, 0, none⟩) xs.length cap) xs) : HoldsK enc k w g 0 xs.toArray := by
  intro j hj
  rw [flat_row hk] at hj ⊢
  have hj' : j < (rowV enc xs).length := by simpa using hj
  rcases h.2 with ⟨hv, _⟩ | ⟨g1, c1, cur, hv, hb, hg, hn, hm, hcs, ht⟩
  · cases hv
  · simp only [Value.slice.injEq, Option.some.injEq, Addr.mk.injEq] at hv
    obtain ⟨⟨rfl, _, _⟩, _, rfl⟩ := hv
    refine ⟨?_, ?_⟩
    · rw [Nat.zero_add, World.ownsRow.cellAt h j (by rw [← rowV_len hk]; exact hj')]
      simp [hj']
    · simp [World.frozen?, hg]
theorem size_sortK (w : World) (b m : Nat) (d : Array A) (os : Array Obj) : w.heap.size ≤ (sortWorldK enc k w b 0 m d os).heap.size := by
  simp [sortWorldK, grow, putRowK, putRow, mapBlock, Sort.ahead]
theorem heap_sortK (w : World) (b m g : Nat) (d : Array A) (os : Array Obj) (hg : g < w.heap.size) (hne : g ≠ b) : (sortWorldK enc k w b 0 m d os).heap[g]? = w.heap[g]? := by
  unfold sortWorldK
  rw [heap_grow_old _ _ (by simpa [putRowK] using hg)]
  simp [putRowK, putRow, mapBlock, Sort.ahead, Array.getElem?_modify, Ne.symm hne]
theorem heap_sortK_own (w : World) (b m : Nat) (d : Array A) (os : Array Obj) {cur : Array Value} {t : TypeId} {fr : Nat × Nat} (hb : w.heap[b]? = some (.cells cur t fr)) : (sortWorldK enc k w b 0 m d os).heap[b]? = some (.cells (putCells id 0 (flatK enc k d) cur) t fr) := by
  have hlt := lt_of_block hb
  unfold sortWorldK
  rw [heap_grow_old _ _ (by simpa [putRowK] using hlt)]
  simp [putRowK, putRow, mapBlock, Sort.ahead, Array.getElem?_modify, hb, onCells]
theorem OwnX.sorted {T : TypeId} {w : World} {base g cap m : Nat} {xs ys : List A} {os : Array Obj} (hk : ∀ x, (enc x).length = k) (h : OwnX T k enc w base (.slice (some ⟨g, 0, none⟩) xs.length cap) xs) (hl : ys.length = xs.length) :
    OwnX T k enc (sortWorldK enc k w g 0 m ys.toArray os) base (.slice (some ⟨g, 0, none⟩) xs.length cap) ys := by
  rcases h.2 with ⟨hv, _⟩ | ⟨g1, c1, cur, hv, hb, hg, hn, hm, hcs, ht⟩
  · cases hv
  · simp only [Value.slice.injEq, Option.some.injEq, Addr.mk.injEq] at hv
    obtain ⟨⟨rfl, _, _⟩, _, rfl⟩ := hv
    unfold OwnX
    rw [hl]
    have hfl := rowV_len hk ys
    rw [hl] at hfl
    refine ⟨hfl, .inr ⟨g, cap, putCells id 0 (flatK enc k ys.toArray) cur, rfl, hb, heap_sortK_own w g m _ os hg, hn, hm, by simp [putCells, hcs], ?_⟩⟩
    have hcap : xs.length * k ≤ cap * k := Nat.mul_le_mul_right k hn
    apply List.ext_getElem?
    intro j
    rcases Nat.lt_or_ge j (xs.length * k) with hj | hj
    · have h2 : j < cur.size := by rw [hcs]; omega
      have h3 : j < (rowV enc ys).length := by rw [hfl]; exact hj
      rw [List.getElem?_take_of_lt hj]
      simp only [putCells, Array.getElem?_toList, Array.getElem?_mapIdx, Array.getElem?_eq_getElem h2, Option.map_some]
      rw [if_pos ⟨Nat.zero_le _, by rw [flat_row hk]; simpa using h3⟩, flat_row hk]
      simp [h3]
    · rw [List.getElem?_eq_none (by simp; omega), List.getElem?_eq_none (by rw [hfl]; omega)]
omit [Inhabited A] in
theorem OwnX.row {T : TypeId} {ok : World → A → Prop} {w : World} {base : Nat} {v : Value} {xs : List A} (hk : ∀ x, (enc x).length = k) (h : OwnX T k enc w base v xs) (hok : ∀ x ∈ xs, ok w x) : ∃ a c, v = .slice a xs.length c ∧ HasRow k enc ok w a c xs := by
  rcases h.2 with ⟨rfl, h0⟩ | ⟨g, cap, cur, rfl, hb, hg, hn, hm, hcs, ht⟩
  · obtain rfl : xs = [] := List.eq_nil_of_length_eq_zero h0
    exact ⟨none, 0, rfl, Nat.le_refl _, by unfold maxLen; omega, hok, .inl rfl⟩
  · refine ⟨_, cap, rfl, hn, hm, hok, .inr ⟨g, 0, rfl, lt_of_block hg, fun i hi j u hu => ?_⟩⟩
    have hj : j < k := by rw [← hk xs[i]]; exact (List.getElem?_eq_some_iff.1 hu).1
    have hlt : i * k + j < xs.length * k := by
      have := Nat.mul_le_mul_right k (show i + 1 ≤ xs.length from hi)
      rw [Nat.add_mul, Nat.one_mul] at this
      omega
    rw [Nat.zero_add, World.ownsRow.cellAt h (i * k + j) hlt, rowV_get hk xs i hi j hj, hu]
omit [Inhabited A] in
theorem HasRow.flat {_ok : World → A → Prop} {w : World} {_c : Nat} {xs : List A} {b off : Nat} (hk : ∀ x, (enc x).length = k) (k0 : 0 < k) (h : ∀ i (h : i < xs.length) j u, (enc xs[i])[j]? = some u → w.cell? ⟨b, off + i * k + j, none⟩ = some u) :
    ∀ j u, (rowV enc xs)[j]? = some u → w.cell? ⟨b, off + j, none⟩ = some u := by
  intro j u hu
  have hj : j < xs.length * k := by rw [← rowV_len hk]; exact (List.getElem?_eq_some_iff.1 hu).1
  have hi : j / k < xs.length := (Nat.div_lt_iff_lt_mul k0).2 hj
  have e := Nat.div_add_mod' j k
  have g := rowV_get hk xs (j / k) hi (j % k) (Nat.mod_lt _ k0)
  rw [e, hu] at g
  have := h (j / k) hi (j % k) u g.symm
  rwa [Nat.add_assoc, e] at this
end
end Go.Proofs.YtkgnapojkijbgaaGreatDoor
/- The contracts of config.sorted of rules and of hours. -/
namespace Go.Proofs.YtkgnapojkijbgaaGreatDoor
open Go.RowKit Go.Sort Go.Lib Go.Shelf

instance : Inhabited RuA := ⟨⟨⟨⟨#[]⟩, ⟨#[]⟩, 0, 0, 0, 0, 0, []⟩, none, 0⟩⟩
instance : Inhabited HrA := ⟨⟨⟨#[]⟩, 0, 0, 0⟩⟩
theorem RuA.enc_len (x : RuA) : x.enc.length = 8 := rfl
theorem HrA.enc_len (x : HrA) : x.enc.length = 4 := rfl
theorem RuA.enc_one (x : RuA) : ∀ v ∈ x.enc, v.oneCell' = true := by
  intro v hv
  simp only [RuA.enc, List.mem_cons, List.not_mem_nil, or_false] at hv
  rcases hv with rfl | rfl | rfl | rfl | rfl | rfl | rfl | rfl <;> rfl
theorem HrA.enc_one (x : HrA) : ∀ v ∈ x.enc, v.oneCell' = true := by
  intro v hv
  simp only [HrA.enc, List.mem_cons, List.not_mem_nil, or_false] at hv
  rcases hv with rfl | rfl | rfl | rfl <;> rfl
/-- a comparison by names -/
def cmpN {A : Type} (nm : A → ByteArray) (x y : A) : Int := Lib.compareBytes (nm x).data.toList (nm y).data.toList
theorem lt_cmpN {A : Type} (nm : A → ByteArray) (x y : A) : ltOf (cmpN nm) x y = lessB (nm x).data.toList (nm y).data.toList := by rw [lessB_cmp]; rfl
theorem swo_cmpN {A : Type} (nm : A → ByteArray) : SWO (ltOf (cmpN nm)) := by
  refine ⟨fun x => ?_, fun x y z h g => ?_, fun x y z h g => ?_⟩
  · rw [lt_cmpN]; exact lessB_irrefl _
  · rw [lt_cmpN] at *; exact lessB_trans _ _ _ h g
  · rw [lt_cmpN] at *
    have := leB_trans (nm z).data.toList (nm y).data.toList (nm x).data.toList (by simp [leB, g]) (by simp [leB, h])
    simpa [leB] using this
/-- things in the order of their names -/
def SortedN {A : Type} (nm : A → ByteArray) (xs ys : List A) : Prop := ys.Perm xs ∧ ys.Pairwise (fun a b => leB (nm a).data.toList (nm b).data.toList = true)
theorem sortedN_of {A : Type} [Inhabited A] (nm : A → ByteArray) (xs : List A) (d : Array A) (hp : PermIn 0 xs.toArray.size xs.toArray d) (hs : SortedIn (ltOf (cmpN nm)) 0 xs.toArray.size d) : d.toList.length = xs.length ∧ SortedN nm xs d.toList := by
  obtain ⟨hsz, _, hperm⟩ := hp
  have hd : d.size = xs.length := by simpa using hsz
  refine ⟨by simpa using hd, ?_, ?_⟩
  · have e1 : (d.extract 0 xs.toArray.size).toList = d.toList := by rw [← hsz]; simp
    have e2 : (xs.toArray.extract 0 xs.toArray.size).toList = xs := by simp
    rwa [e1, e2] at hperm
  · refine List.pairwise_iff_getElem.2 fun i j hi hj hij => ?_
    have hi' : i < d.size := by simpa using hi
    have hj' : j < d.size := by simpa using hj
    have h1 := hs i j (Nat.zero_le _) hij (by rw [← hsz]; exact hj')
    rw [lt_cmpN, getElem!_pos d j hj', getElem!_pos d i hi'] at h1
    simp only [leB, Bool.not_eq_true']
    simpa using h1

theorem Tryz.infoRu : (Tryz.prog.info? 44).map (fun i => (i.zero, i.size, i.bytes)) = some (some (.agg #[.string ⟨#[]⟩, .string ⟨#[]⟩, .int .i64 0, .int .i64 0, .int .i64 0, .int .i64 0, .int .i64 0, .slice none 0 0]), 8, 96) := by kernel_rfl
theorem info_partsRu {x : Option TypeInfo} (h : x.map (fun i => (i.zero, i.size, i.bytes)) = some (some (.agg #[.string ⟨#[]⟩, .string ⟨#[]⟩, .int .i64 0, .int .i64 0, .int .i64 0, .int .i64 0, .int .i64 0, .slice none 0 0]), 8, 96)) : ∃ i, x = some i ∧ i.zero = some (.agg #[.string ⟨#[]⟩, .string ⟨#[]⟩, .int .i64 0, .int .i64 0, .int .i64 0, .int .i64 0, .int .i64 0, .slice none 0 0]) ∧ i.size = 8 ∧ i.bytes = 96 := by
  cases x with
  | none => cases h
  | some i => simp at h; exact ⟨i, rfl, h.1, h.2.1, h.2.2⟩
set_option maxHeartbeats 3200000 in
set_option maxRecDepth 100000 in
theorem cmpR_any (x y : RuA) (g : Nat) (w : World) (hg : Blk w g 83 #[.func (.func 53) #[] #[]]) :
    Calls Tryz.prog 123 #[.agg #[.string x.r.name, .string x.r.metric, .int .i64 x.r.how, .int .i64 x.r.limit, .int .i64 x.r.fr, .int .i64 x.r.keep, .int .i64 x.r.tries, .slice x.a x.r.labels.length x.c], .agg #[.string y.r.name, .string y.r.metric, .int .i64 y.r.how, .int .i64 y.r.limit, .int .i64 y.r.fr, .int .i64 y.r.keep, .int .i64 y.r.tries, .slice y.a y.r.labels.length y.c], .pointer (some ⟨g, 0, none⟩)] w fun e w' => e = .returned (.int .i64 (cmpN RuA.name x y)) ∧ ∃ q os', w' = grow (w.drewN q) os' := by
  have mixed : Tryz.prog.follows .mixedOrders = true := by kernel_rfl
  obtain ⟨W, hW⟩ : ∃ W, (w.alloc (.cells #[.string x.r.name, .string x.r.metric, .int .i64 x.r.how, .int .i64 x.r.limit, .int .i64 x.r.fr, .int .i64 x.r.keep, .int .i64 x.r.tries, .slice x.a x.r.labels.length x.c] 44)).alloc (.cells #[.string y.r.name, .string y.r.metric, .int .i64 y.r.how, .int .i64 y.r.limit, .int .i64 y.r.fr, .int .i64 y.r.keep, .int .i64 y.r.tries, .slice y.a y.r.labels.length y.c] 44) = W := ⟨_, rfl⟩
  have hX := (Blk.new w 44 #[.string x.r.name, .string x.r.metric, .int .i64 x.r.how, .int .i64 x.r.limit, .int .i64 x.r.fr, .int .i64 x.r.keep, .int .i64 x.r.tries, .slice x.a x.r.labels.length x.c]).alloc (.cells #[.string y.r.name, .string y.r.metric, .int .i64 y.r.how, .int .i64 y.r.limit, .int .i64 y.r.fr, .int .i64 y.r.keep, .int .i64 y.r.tries, .slice y.a y.r.labels.length y.c] 44)
  have hY := nbR w (.cells #[.string x.r.name, .string x.r.metric, .int .i64 x.r.how, .int .i64 x.r.limit, .int .i64 x.r.fr, .int .i64 x.r.keep, .int .i64 x.r.tries, .slice x.a x.r.labels.length x.c] 44) #[.string y.r.name, .string y.r.metric, .int .i64 y.r.how, .int .i64 y.r.limit, .int .i64 y.r.fr, .int .i64 y.r.keep, .int .i64 y.r.tries, .slice y.a y.r.labels.length y.c] 44
  have hG := (hg.alloc (.cells #[.string x.r.name, .string x.r.metric, .int .i64 x.r.how, .int .i64 x.r.limit, .int .i64 x.r.fr, .int .i64 x.r.keep, .int .i64 x.r.tries, .slice x.a x.r.labels.length x.c] 44)).alloc (.cells #[.string y.r.name, .string y.r.metric, .int .i64 y.r.how, .int .i64 y.r.limit, .int .i64 y.r.fr, .int .i64 y.r.keep, .int .i64 y.r.tries, .slice y.a y.r.labels.length y.c] 44)
  rw [hW] at hX hY hG
  have hWg : ∀ n os, ∃ q os', grow (W.drewN n) os = grow (w.drewN q) os' := fun n os => by
    refine ⟨n, #[.cells #[.string x.r.name, .string x.r.metric, .int .i64 x.r.how, .int .i64 x.r.limit, .int .i64 x.r.fr, .int .i64 x.r.keep, .int .i64 x.r.tries, .slice x.a x.r.labels.length x.c] 44, .cells #[.string y.r.name, .string y.r.metric, .int .i64 y.r.how, .int .i64 y.r.limit, .int .i64 y.r.fr, .int .i64 y.r.keep, .int .i64 y.r.tries, .slice y.a y.r.labels.length y.c] 44] ++ os, ?_⟩
    rw [← hW, alloc_eq_grow, alloc_eq_grow]
    show grow (grow (grow (w.drewN n) _) _) os = _
    rw [grow_grow, grow_grow, ← Array.append_assoc]
    rfl
  have hxl := hX.lt
  have hyl := hY.lt
  have g0 := fun n os => cell_grown (w := W) hG.lt (hG.cell 0) n os
  have a0 := fun n os => cell_grown (w := W) hxl (hX.cell 0) n os
  have a1 := fun n os => cell_grown (w := W) hxl (hX.cell 1) n os
  have a2 := fun n os => cell_grown (w := W) hxl (hX.cell 2) n os
  have a3 := fun n os => cell_grown (w := W) hxl (hX.cell 3) n os
  have a4 := fun n os => cell_grown (w := W) hxl (hX.cell 4) n os
  have a5 := fun n os => cell_grown (w := W) hxl (hX.cell 5) n os
  have a6 := fun n os => cell_grown (w := W) hxl (hX.cell 6) n os
  have a7 := fun n os => cell_grown (w := W) hxl (hX.cell 7) n os
  have b0 := fun n os => cell_grown (w := W) hyl (hY.cell 0) n os
  have b1 := fun n os => cell_grown (w := W) hyl (hY.cell 1) n os
  have b2 := fun n os => cell_grown (w := W) hyl (hY.cell 2) n os
  have b3 := fun n os => cell_grown (w := W) hyl (hY.cell 3) n os
  have b4 := fun n os => cell_grown (w := W) hyl (hY.cell 4) n os
  have b5 := fun n os => cell_grown (w := W) hyl (hY.cell 5) n os
  have b6 := fun n os => cell_grown (w := W) hyl (hY.cell 6) n os
  have b7 := fun n os => cell_grown (w := W) hyl (hY.cell 7) n os
  have hc := fun a b V => Tryz.strings_Compare a b V
  have hn := fun (z : RuA) V => ruleName_any z V
  obtain ⟨K, hK⟩ : ∃ K, cmpN RuA.name x y = K := ⟨_, rfl⟩
  rw [hK]
  have hcc : ∀ n os, Calls Tryz.prog 124 #[.string x.r.name, .string y.r.name] (grow (W.drewN n) os) (fun e w' => e = .returned (.int .i64 K) ∧ ∃ q os', w' = grow ((grow (W.drewN n) os).drewN q) os') := fun n os => (hc _ _ _).mono fun e w' ⟨he, hw⟩ => ⟨by rw [he, ← hK]; rfl, 0, #[], by rw [hw, grow_empty]; rfl⟩
  have hnx : ∀ n os, Calls Tryz.prog 53 #[.agg #[.string x.r.name, .string x.r.metric, .int .i64 x.r.how, .int .i64 x.r.limit, .int .i64 x.r.fr, .int .i64 x.r.keep, .int .i64 x.r.tries, .slice x.a x.r.labels.length x.c]] (grow (W.drewN n) os) (fun e w' => e = .returned (.string x.r.name) ∧ ∃ q os', w' = grow ((grow (W.drewN n) os).drewN q) os') := fun n os => (hn x _).mono fun e w' ⟨he, os', hw⟩ => ⟨he, 0, os', by rw [hw]; rfl⟩
  have hny : ∀ n os, Calls Tryz.prog 53 #[.agg #[.string y.r.name, .string y.r.metric, .int .i64 y.r.how, .int .i64 y.r.limit, .int .i64 y.r.fr, .int .i64 y.r.keep, .int .i64 y.r.tries, .slice y.a y.r.labels.length y.c]] (grow (W.drewN n) os) (fun e w' => e = .returned (.string y.r.name) ∧ ∃ q os', w' = grow ((grow (W.drewN n) os).drewN q) os') := fun n os => (hn y _).mono fun e w' ⟨he, os', hw⟩ => ⟨he, 0, os', by rw [hw]; rfl⟩
  have HCC := Lib.hid hcc
  have HNX := Lib.hid hnx
  have HNY := Lib.hid hny
  have HWG := Lib.hid hWg
  clear hc hn hK hcc hnx hny hWg hg hX hY hG
  go_enter Tryz.func123, Tryz.ntmps123
  go_upto_region 1 with fail
  try rw [hW]
  clear hW
  go_quiet_grown (first
    | (go_at_call 53; first | (with_reducible exact Calls.grown_of (HNX.out _ _)) | (with_reducible exact Calls.grown_of (HNY.out _ _)))
    | (go_at_call 124; exact Calls.grown_of (HCC.out _ _)))
  obtain ⟨q1, os1, hq1⟩ := HWG.out nq osq
  go_wp2_with fail
  go_ret
  exact ⟨rfl, q1, os1, hq1⟩
theorem cmpR_lays (b size g : Nat) (w : World) (hg : Blk w g 83 #[.func (.func 53) #[] #[]]) (hne : g ≠ b) :
    CmpLays Tryz.prog 123 #[.pointer (some ⟨g, 0, none⟩)] RuA.enc 8 (cmpN RuA.name) b 0 size w := by
  intro m os dk _ x y
  exact cmpR_any x y g (sortWorldK RuA.enc 8 w b 0 m dk os) ((heap_sortK w b m g dk os hg.lt hne).trans hg)
set_option maxHeartbeats 1600000 in
theorem sort1R_any (base g cap f : Nat) (xs : List RuA) (w : World) (h : OwnX 44 8 RuA.enc w base (.slice (some ⟨g, 0, none⟩) xs.length cap) xs) (h8 : xs.length ≤ 1000000) (hf : Blk w f 83 #[.func (.func 53) #[] #[]]) :
    Calls Tryz.prog 122 #[.slice (some ⟨g, 0, none⟩) xs.length cap, .func (.func 123) #[] #[.pointer (some ⟨f, 0, none⟩)]] w
      (fun e w' => e = .returned (.tuple #[]) ∧ ∃ ys, ys.length = xs.length ∧ SortedN RuA.name xs ys ∧ OwnX 44 8 RuA.enc w' base (.slice (some ⟨g, 0, none⟩) xs.length cap) ys ∧ Below base w w') := by
  have eg : ∀ args w, (callFunc 123 args).run Tryz.prog w = .ok (.enter 123 args) w := enters_of Tryz.func123 (by kernel_rfl) rfl
  have hH := h.holds RuA.enc_len
  obtain ⟨hg, hbg⟩ : g < w.heap.size ∧ base ≤ g := by
    have := World.ownsRow.lt h g rfl
    exact ⟨this.2, this.1⟩
  have hne : f ≠ g := fun e => by
    rcases h.2 with ⟨hv, _⟩ | ⟨g1, c1, cur, hv, _, hgg, _⟩
    · cases hv
    · simp only [Value.slice.injEq, Option.some.injEq, Addr.mk.injEq] at hv
      obtain ⟨⟨rfl, _, _⟩, _, rfl⟩ := hv
      subst e
      have := hgg.symm.trans (show w.heap[f]? = _ from hf)
      simp at this
  have hcon := AnyQ.slices_SortFunc Tryz.sortR 8 Tryz.isAgg44 Tryz.sizeOf44 RuA.enc RuA.enc_len RuA.enc_one (cmpN RuA.name) (swo_cmpN _) 123 #[.pointer (some ⟨f, 0, none⟩)] g 0 cap xs.toArray w eg (cmpR_lays g _ f w hf hne) hH hg (by simp; omega)
  rw [show xs.toArray.size = xs.length by simp] at hcon
  refine (show Calls Tryz.prog 122 _ _ _ from hcon).mono fun e w' ⟨he, d', n, os, hp, hs, hw⟩ => ⟨he, ?_⟩
  obtain ⟨hl, hsn⟩ := sortedN_of RuA.name xs d' (by simpa using hp) (by simpa using hs)
  have ho := h.sorted (ys := d'.toList) (m := n) (os := os) RuA.enc_len hl
  rw [show d'.toList.toArray = d' by simp] at ho
  refine ⟨d'.toList, hl, hsn, by rw [hw]; exact ho, ?_⟩
  rw [hw]
  exact ⟨rfl, rfl, rfl, size_sortK _ _ _ _ _, fun k hk => heap_sortK w g n k _ os (by omega) (by omega)⟩
set_option maxHeartbeats 1600000 in
set_option maxRecDepth 100000 in
theorem clone0R_any (a : Addr) (c : Nat) (w : World) : Calls Tryz.prog 121 #[.slice (some a) 0 c] w (fun e w' => ∃ v, e = .returned v ∧ OwnX 44 8 RuA.enc w' w.heap.size v ([] : List RuA) ∧ Below w.heap.size w w') := by
  obtain ⟨i0, hi, hz0, hz1, hz2⟩ := info_partsRu Tryz.infoRu
  have q22 : ∀ (w : World) (a : Option Addr) (n c n' c' : Nat), (binOp .eql 22 (.slice a n c) (.slice none n' c')).run Tryz.prog w = .ok (.bool a.isNone) w := fun w a n c n' c' => Lib.run_eql_slice_nil w _ _ a n c n' c' Tryz.underlying22
  go_enter Tryz.func121, Tryz.ntmps121
  go_wp2_with (refine wpList_append_own _ (by rfl) (.tmp 5) (.tmp 6) 22 (by rfl) w.heap.size 44 i0 (.agg #[.string ⟨#[]⟩, .string ⟨#[]⟩, .int .i64 0, .int .i64 0, .int .i64 0, .int .i64 0, .int .i64 0, .slice none 0 0]) 8 96 Tryz.underlying22 hi hz0 hz1 hz2 rfl (by omega) (.slice (some ⟨w.heap.size, 0, none⟩) 0 0) 0 [] (by rfl) (World.ownsRow_made w #[] 0 (Nat.le_refl _) (by unfold maxLen; omega) (by simp)) a 0 c [] (by rfl) (by rfl) (by intro j u hj; simp at hj) (by intro u hu; cases hu) (by unfold maxLen; omega) (by omega) (by simp) ?_; intro v' w1 hown hgrow hnil)
  go_ret
  refine ⟨v', rfl, by simpa [OwnX, rowV] using hown, ?_⟩
  exact ((Below.refl _ w).alloc (Nat.le_refl _) _).grown hgrow (by simp) (by intro k hk; simp [Value.ownBlock] at hk; omega)
theorem cloneR_any (a : Option Addr) (c : Nat) (xs : List RuA) (w : World) (h : HasRules w a c xs) (h8 : xs.length ≤ 1000000) :
    Calls Tryz.prog 121 #[.slice a xs.length c] w (fun e w' => ∃ v, e = .returned v ∧ OwnX 44 8 RuA.enc w' w.heap.size v xs ∧ Below w.heap.size w w') := by
  obtain ⟨i0, hi, hz0, hz1, hz2⟩ := info_partsRu Tryz.infoRu
  obtain ⟨h1, h2, h3, h4⟩ := h
  rcases h4 with rfl | ⟨b, off, rfl, hb, hc⟩
  · cases a with
    | none => exact (show Calls Tryz.prog 121 _ _ _ from AnyE.slices_Clone_nil Tryz.cloneR 0 c w).mono fun e w' ⟨he, hw⟩ => ⟨_, he, by rw [hw]; exact OwnX.nil _ _ _, by rw [hw]; exact Below.refl _ _⟩
    | some a => exact clone0R_any a c w
  · refine (show Calls Tryz.prog 121 _ _ _ from AnyE.slices_Clone Tryz.cloneR i0 _ 8 96 hi hz0 hz1 hz2 rfl (by omega) Tryz.sizeOf44 b off xs.length c (rowV RuA.enc xs) w (rowV_len RuA.enc_len xs) (by unfold maxLen; omega) (by omega) (HasRow.flat (_ok := RuA.ok) (_c := c) RuA.enc_len (by omega) hc) (fun u hu => ?_)).mono fun e w' ⟨v, he, ho, _, hb⟩ => ⟨v, he, ho, hb⟩
    obtain ⟨x, _, h⟩ := List.mem_flatMap.1 hu
    exact RuA.enc_one x u h
theorem sort0R_any (a : Option Addr) (cap : Nat) (fv : Value) (w : World) : Calls Tryz.prog 122 #[.slice a 0 cap, fv] w (fun e w' => e = .returned (.tuple #[]) ∧ w' = w) :=
  AnyF.slices_SortFunc_none Tryz.sortR a cap fv w
/-- what config.sorted of these answers -/
def SrtR (xs : List RuA) (w : World) (e : Ending) (w' : World) : Prop := ∃ v ys, e = .returned v ∧ ys.length = xs.length ∧ SortedN RuA.name xs ys ∧ OwnX 44 8 RuA.enc w' w.heap.size v ys ∧ Below w.heap.size w w'
set_option maxHeartbeats 3200000 in
set_option maxRecDepth 100000 in
theorem srtR_any (a : Option Addr) (c : Nat) (xs : List RuA) (w : World) (h : HasRules w a c xs) (h8 : xs.length ≤ 1000000) :
    Calls Tryz.prog 63 #[.slice a xs.length c, .func (.func 53) #[] #[]] w (SrtR xs w) := by
  have hb := (Below.refl w.heap.size w).alloc (Nat.le_refl _) (.cells #[.func (.func 53) #[] #[]] 83)
  have hB := Blk.new w 83 #[.func (.func 53) #[] #[]]
  have hz : (w.alloc (.cells #[.func (.func 53) #[] #[]] 83)).heap.size = w.heap.size + 1 := by simp
  have hcl := cloneR_any a c xs _ (h.keep hb) h8
  have hs1 := fun (g cap : Nat) W (ho : OwnX 44 8 RuA.enc W (w.heap.size + 1) (.slice (some ⟨g, 0, none⟩) xs.length cap) xs) hf => sort1R_any (w.heap.size + 1) g cap w.heap.size xs W ho h8 hf
  have hs0 := fun a cap W => sort0R_any a cap (.func (.func 123) #[] #[.pointer (some ⟨w.heap.size, 0, none⟩)]) W
  have HB := Lib.hid hb
  have HCL := Lib.hid hcl
  have HS1 := Lib.hid hs1
  have HS0 := Lib.hid hs0
  have HBB := Lib.hid hB
  clear hb hcl hs1 hs0 hB h
  go_enter Tryz.func63, Tryz.ntmps63
  go_upto_region 1 with fail
  obtain ⟨f, hf⟩ : ∃ f, w.heap.size = f := ⟨_, rfl⟩
  generalize w.alloc (.cells #[.func (.func 53) #[] #[]] 83) = wx at *
  have HF := Lib.hid hf
  rw [hf] at HBB HS1 HS0 hz ⊢
  clear hf
  go_upto_region 2 with (go_at_call 121; refine HCL.out.mono ?_; rintro e w2 ⟨v, rfl, ho2, hb2⟩)
  have hB2 := HBB.out.call hb2
  rw [hz] at ho2
  have hbb := HB.out.trans (hb2.mono HB.out.size)
  rcases ho2.2 with ⟨rfl, h0⟩ | ⟨g1, cap, cur, rfl, _, _, _, _, _, _⟩
  · obtain rfl : xs = [] := List.eq_nil_of_length_eq_zero h0
    have HBB2 := Lib.hid hbb
    clear hB2 hbb ho2
    go_wp2_with (go_at_call 122; refine (HS0.out _ _ _).mono ?_; rintro e w3 ⟨rfl, rfl⟩)
    go_ret
    exact ⟨_, [], rfl, rfl, ⟨.refl _, .nil⟩, OwnX.nil _ _ _, HBB2.out⟩
  · have hcall := HS1.out g1 cap w2 ho2 hB2
    have HCA := Lib.hid hcall
    have HBB2 := Lib.hid hbb
    clear hB2 hbb ho2 hcall
    go_wp2_with (go_at_call 122; refine HCA.out.mono ?_; rintro e w3 ⟨rfl, ys, hl3, hs3, ho3, hb3⟩)
    go_ret
    have hff := HF.out
    exact ⟨_, ys, rfl, hl3, hs3, ho3.base (by omega), HBB2.out.trans (hb3.mono (by omega))⟩

theorem Tryz.infoH : (Tryz.prog.info? 51).map (fun i => (i.zero, i.size, i.bytes)) = some (some (.agg #[.string ⟨#[]⟩, .int .i64 0, .int .i64 0, .int .i64 0]), 4, 40) := by kernel_rfl
theorem info_partsH {x : Option TypeInfo} (h : x.map (fun i => (i.zero, i.size, i.bytes)) = some (some (.agg #[.string ⟨#[]⟩, .int .i64 0, .int .i64 0, .int .i64 0]), 4, 40)) : ∃ i, x = some i ∧ i.zero = some (.agg #[.string ⟨#[]⟩, .int .i64 0, .int .i64 0, .int .i64 0]) ∧ i.size = 4 ∧ i.bytes = 40 := by
  cases x with
  | none => cases h
  | some i => simp at h; exact ⟨i, rfl, h.1, h.2.1, h.2.2⟩
set_option maxHeartbeats 3200000 in
set_option maxRecDepth 100000 in
theorem cmpH_any (x y : HrA) (g : Nat) (w : World) (hg : Blk w g 78 #[.func (.func 61) #[] #[]]) :
    Calls Tryz.prog 135 #[.agg #[.string x.n, .int .i64 x.d, .int .i64 x.f, .int .i64 x.t], .agg #[.string y.n, .int .i64 y.d, .int .i64 y.f, .int .i64 y.t], .pointer (some ⟨g, 0, none⟩)] w fun e w' => e = .returned (.int .i64 (cmpN HrA.n x y)) ∧ ∃ q os', w' = grow (w.drewN q) os' := by
  have mixed : Tryz.prog.follows .mixedOrders = true := by kernel_rfl
  obtain ⟨W, hW⟩ : ∃ W, (w.alloc (.cells #[.string x.n, .int .i64 x.d, .int .i64 x.f, .int .i64 x.t] 51)).alloc (.cells #[.string y.n, .int .i64 y.d, .int .i64 y.f, .int .i64 y.t] 51) = W := ⟨_, rfl⟩
  have hX := (Blk.new w 51 #[.string x.n, .int .i64 x.d, .int .i64 x.f, .int .i64 x.t]).alloc (.cells #[.string y.n, .int .i64 y.d, .int .i64 y.f, .int .i64 y.t] 51)
  have hY := nbR w (.cells #[.string x.n, .int .i64 x.d, .int .i64 x.f, .int .i64 x.t] 51) #[.string y.n, .int .i64 y.d, .int .i64 y.f, .int .i64 y.t] 51
  have hG := (hg.alloc (.cells #[.string x.n, .int .i64 x.d, .int .i64 x.f, .int .i64 x.t] 51)).alloc (.cells #[.string y.n, .int .i64 y.d, .int .i64 y.f, .int .i64 y.t] 51)
  rw [hW] at hX hY hG
  have hWg : ∀ n os, ∃ q os', grow (W.drewN n) os = grow (w.drewN q) os' := fun n os => by
    refine ⟨n, #[.cells #[.string x.n, .int .i64 x.d, .int .i64 x.f, .int .i64 x.t] 51, .cells #[.string y.n, .int .i64 y.d, .int .i64 y.f, .int .i64 y.t] 51] ++ os, ?_⟩
    rw [← hW, alloc_eq_grow, alloc_eq_grow]
    show grow (grow (grow (w.drewN n) _) _) os = _
    rw [grow_grow, grow_grow, ← Array.append_assoc]
    rfl
  have hxl := hX.lt
  have hyl := hY.lt
  have g0 := fun n os => cell_grown (w := W) hG.lt (hG.cell 0) n os
  have a0 := fun n os => cell_grown (w := W) hxl (hX.cell 0) n os
  have a1 := fun n os => cell_grown (w := W) hxl (hX.cell 1) n os
  have a2 := fun n os => cell_grown (w := W) hxl (hX.cell 2) n os
  have a3 := fun n os => cell_grown (w := W) hxl (hX.cell 3) n os
  have b0 := fun n os => cell_grown (w := W) hyl (hY.cell 0) n os
  have b1 := fun n os => cell_grown (w := W) hyl (hY.cell 1) n os
  have b2 := fun n os => cell_grown (w := W) hyl (hY.cell 2) n os
  have b3 := fun n os => cell_grown (w := W) hyl (hY.cell 3) n os
  have hc := fun a b V => Tryz.strings_Compare a b V
  have hn := fun (z : HrA) V => hoursName_any z V
  obtain ⟨K, hK⟩ : ∃ K, cmpN HrA.n x y = K := ⟨_, rfl⟩
  rw [hK]
  have hcc : ∀ n os, Calls Tryz.prog 124 #[.string x.n, .string y.n] (grow (W.drewN n) os) (fun e w' => e = .returned (.int .i64 K) ∧ ∃ q os', w' = grow ((grow (W.drewN n) os).drewN q) os') := fun n os => (hc _ _ _).mono fun e w' ⟨he, hw⟩ => ⟨by rw [he, ← hK]; rfl, 0, #[], by rw [hw, grow_empty]; rfl⟩
  have hnx : ∀ n os, Calls Tryz.prog 61 #[.agg #[.string x.n, .int .i64 x.d, .int .i64 x.f, .int .i64 x.t]] (grow (W.drewN n) os) (fun e w' => e = .returned (.string x.n) ∧ ∃ q os', w' = grow ((grow (W.drewN n) os).drewN q) os') := fun n os => (hn x _).mono fun e w' ⟨he, os', hw⟩ => ⟨he, 0, os', by rw [hw]; rfl⟩
  have hny : ∀ n os, Calls Tryz.prog 61 #[.agg #[.string y.n, .int .i64 y.d, .int .i64 y.f, .int .i64 y.t]] (grow (W.drewN n) os) (fun e w' => e = .returned (.string y.n) ∧ ∃ q os', w' = grow ((grow (W.drewN n) os).drewN q) os') := fun n os => (hn y _).mono fun e w' ⟨he, os', hw⟩ => ⟨he, 0, os', by rw [hw]; rfl⟩
  have HCC := Lib.hid hcc
  have HNX := Lib.hid hnx
  have HNY := Lib.hid hny
  have HWG := Lib.hid hWg
  clear hc hn hK hcc hnx hny hWg hg hX hY hG
  go_enter Tryz.func135, Tryz.ntmps135
  go_upto_region 1 with fail
  try rw [hW]
  clear hW
  go_quiet_grown (first
    | (go_at_call 61; first | (with_reducible exact Calls.grown_of (HNX.out _ _)) | (with_reducible exact Calls.grown_of (HNY.out _ _)))
    | (go_at_call 124; exact Calls.grown_of (HCC.out _ _)))
  obtain ⟨q1, os1, hq1⟩ := HWG.out nq osq
  go_wp2_with fail
  go_ret
  exact ⟨rfl, q1, os1, hq1⟩
theorem cmpH_lays (b size g : Nat) (w : World) (hg : Blk w g 78 #[.func (.func 61) #[] #[]]) (hne : g ≠ b) :
    CmpLays Tryz.prog 135 #[.pointer (some ⟨g, 0, none⟩)] HrA.enc 4 (cmpN HrA.n) b 0 size w := by
  intro m os dk _ x y
  exact cmpH_any x y g (sortWorldK HrA.enc 4 w b 0 m dk os) ((heap_sortK w b m g dk os hg.lt hne).trans hg)
set_option maxHeartbeats 1600000 in
theorem sort1H_any (base g cap f : Nat) (xs : List HrA) (w : World) (h : OwnX 51 4 HrA.enc w base (.slice (some ⟨g, 0, none⟩) xs.length cap) xs) (h8 : xs.length ≤ 1000000) (hf : Blk w f 78 #[.func (.func 61) #[] #[]]) :
    Calls Tryz.prog 134 #[.slice (some ⟨g, 0, none⟩) xs.length cap, .func (.func 135) #[] #[.pointer (some ⟨f, 0, none⟩)]] w
      (fun e w' => e = .returned (.tuple #[]) ∧ ∃ ys, ys.length = xs.length ∧ SortedN HrA.n xs ys ∧ OwnX 51 4 HrA.enc w' base (.slice (some ⟨g, 0, none⟩) xs.length cap) ys ∧ Below base w w') := by
  have eg : ∀ args w, (callFunc 135 args).run Tryz.prog w = .ok (.enter 135 args) w := enters_of Tryz.func135 (by kernel_rfl) rfl
  have hH := h.holds HrA.enc_len
  obtain ⟨hg, hbg⟩ : g < w.heap.size ∧ base ≤ g := by
    have := World.ownsRow.lt h g rfl
    exact ⟨this.2, this.1⟩
  have hne : f ≠ g := fun e => by
    rcases h.2 with ⟨hv, _⟩ | ⟨g1, c1, cur, hv, _, hgg, _⟩
    · cases hv
    · simp only [Value.slice.injEq, Option.some.injEq, Addr.mk.injEq] at hv
      obtain ⟨⟨rfl, _, _⟩, _, rfl⟩ := hv
      subst e
      have := hgg.symm.trans (show w.heap[f]? = _ from hf)
      simp at this
  have hcon := AnyQ.slices_SortFunc Tryz.sortH 4 Tryz.isAgg51 Tryz.sizeOf51 HrA.enc HrA.enc_len HrA.enc_one (cmpN HrA.n) (swo_cmpN _) 135 #[.pointer (some ⟨f, 0, none⟩)] g 0 cap xs.toArray w eg (cmpH_lays g _ f w hf hne) hH hg (by simp; omega)
  rw [show xs.toArray.size = xs.length by simp] at hcon
  refine (show Calls Tryz.prog 134 _ _ _ from hcon).mono fun e w' ⟨he, d', n, os, hp, hs, hw⟩ => ⟨he, ?_⟩
  obtain ⟨hl, hsn⟩ := sortedN_of HrA.n xs d' (by simpa using hp) (by simpa using hs)
  have ho := h.sorted (ys := d'.toList) (m := n) (os := os) HrA.enc_len hl
  rw [show d'.toList.toArray = d' by simp] at ho
  refine ⟨d'.toList, hl, hsn, by rw [hw]; exact ho, ?_⟩
  rw [hw]
  exact ⟨rfl, rfl, rfl, size_sortK _ _ _ _ _, fun k hk => heap_sortK w g n k _ os (by omega) (by omega)⟩
set_option maxHeartbeats 1600000 in
set_option maxRecDepth 100000 in
theorem clone0H_any (a : Addr) (c : Nat) (w : World) : Calls Tryz.prog 133 #[.slice (some a) 0 c] w (fun e w' => ∃ v, e = .returned v ∧ OwnX 51 4 HrA.enc w' w.heap.size v ([] : List HrA) ∧ Below w.heap.size w w') := by
  obtain ⟨i0, hi, hz0, hz1, hz2⟩ := info_partsH Tryz.infoH
  have q22 : ∀ (w : World) (a : Option Addr) (n c n' c' : Nat), (binOp .eql 29 (.slice a n c) (.slice none n' c')).run Tryz.prog w = .ok (.bool a.isNone) w := fun w a n c n' c' => Lib.run_eql_slice_nil w _ _ a n c n' c' Tryz.underlying29
  go_enter Tryz.func133, Tryz.ntmps133
  go_wp2_with (refine wpList_append_own _ (by rfl) (.tmp 5) (.tmp 6) 29 (by rfl) w.heap.size 51 i0 (.agg #[.string ⟨#[]⟩, .int .i64 0, .int .i64 0, .int .i64 0]) 4 40 Tryz.underlying29 hi hz0 hz1 hz2 rfl (by omega) (.slice (some ⟨w.heap.size, 0, none⟩) 0 0) 0 [] (by rfl) (World.ownsRow_made w #[] 0 (Nat.le_refl _) (by unfold maxLen; omega) (by simp)) a 0 c [] (by rfl) (by rfl) (by intro j u hj; simp at hj) (by intro u hu; cases hu) (by unfold maxLen; omega) (by omega) (by simp) ?_; intro v' w1 hown hgrow hnil)
  go_ret
  refine ⟨v', rfl, by simpa [OwnX, rowV] using hown, ?_⟩
  exact ((Below.refl _ w).alloc (Nat.le_refl _) _).grown hgrow (by simp) (by intro k hk; simp [Value.ownBlock] at hk; omega)
theorem cloneH_any (a : Option Addr) (c : Nat) (xs : List HrA) (w : World) (h : HasHours w a c xs) (h8 : xs.length ≤ 1000000) :
    Calls Tryz.prog 133 #[.slice a xs.length c] w (fun e w' => ∃ v, e = .returned v ∧ OwnX 51 4 HrA.enc w' w.heap.size v xs ∧ Below w.heap.size w w') := by
  obtain ⟨i0, hi, hz0, hz1, hz2⟩ := info_partsH Tryz.infoH
  obtain ⟨h1, h2, h3, h4⟩ := h
  rcases h4 with rfl | ⟨b, off, rfl, hb, hc⟩
  · cases a with
    | none => exact (show Calls Tryz.prog 133 _ _ _ from AnyE.slices_Clone_nil Tryz.cloneH 0 c w).mono fun e w' ⟨he, hw⟩ => ⟨_, he, by rw [hw]; exact OwnX.nil _ _ _, by rw [hw]; exact Below.refl _ _⟩
    | some a => exact clone0H_any a c w
  · refine (show Calls Tryz.prog 133 _ _ _ from AnyE.slices_Clone Tryz.cloneH i0 _ 4 40 hi hz0 hz1 hz2 rfl (by omega) Tryz.sizeOf51 b off xs.length c (rowV HrA.enc xs) w (rowV_len HrA.enc_len xs) (by unfold maxLen; omega) (by omega) (HasRow.flat (_ok := HrA.ok) (_c := c) HrA.enc_len (by omega) hc) (fun u hu => ?_)).mono fun e w' ⟨v, he, ho, _, hb⟩ => ⟨v, he, ho, hb⟩
    obtain ⟨x, _, h⟩ := List.mem_flatMap.1 hu
    exact HrA.enc_one x u h
theorem sort0H_any (a : Option Addr) (cap : Nat) (fv : Value) (w : World) : Calls Tryz.prog 134 #[.slice a 0 cap, fv] w (fun e w' => e = .returned (.tuple #[]) ∧ w' = w) :=
  AnyF.slices_SortFunc_none Tryz.sortH a cap fv w
/-- what config.sorted of these answers -/
def SrtH (xs : List HrA) (w : World) (e : Ending) (w' : World) : Prop := ∃ v ys, e = .returned v ∧ ys.length = xs.length ∧ SortedN HrA.n xs ys ∧ OwnX 51 4 HrA.enc w' w.heap.size v ys ∧ Below w.heap.size w w'
set_option maxHeartbeats 3200000 in
set_option maxRecDepth 100000 in
theorem srtH_any (a : Option Addr) (c : Nat) (xs : List HrA) (w : World) (h : HasHours w a c xs) (h8 : xs.length ≤ 1000000) :
    Calls Tryz.prog 69 #[.slice a xs.length c, .func (.func 61) #[] #[]] w (SrtH xs w) := by
  have hb := (Below.refl w.heap.size w).alloc (Nat.le_refl _) (.cells #[.func (.func 61) #[] #[]] 78)
  have hB := Blk.new w 78 #[.func (.func 61) #[] #[]]
  have hz : (w.alloc (.cells #[.func (.func 61) #[] #[]] 78)).heap.size = w.heap.size + 1 := by simp
  have hcl := cloneH_any a c xs _ (h.keep hb) h8
  have hs1 := fun (g cap : Nat) W (ho : OwnX 51 4 HrA.enc W (w.heap.size + 1) (.slice (some ⟨g, 0, none⟩) xs.length cap) xs) hf => sort1H_any (w.heap.size + 1) g cap w.heap.size xs W ho h8 hf
  have hs0 := fun a cap W => sort0H_any a cap (.func (.func 135) #[] #[.pointer (some ⟨w.heap.size, 0, none⟩)]) W
  have HB := Lib.hid hb
  have HCL := Lib.hid hcl
  have HS1 := Lib.hid hs1
  have HS0 := Lib.hid hs0
  have HBB := Lib.hid hB
  clear hb hcl hs1 hs0 hB h
  go_enter Tryz.func69, Tryz.ntmps69
  go_upto_region 1 with fail
  obtain ⟨f, hf⟩ : ∃ f, w.heap.size = f := ⟨_, rfl⟩
  generalize w.alloc (.cells #[.func (.func 61) #[] #[]] 78) = wx at *
  have HF := Lib.hid hf
  rw [hf] at HBB HS1 HS0 hz ⊢
  clear hf
  go_upto_region 2 with (go_at_call 133; refine HCL.out.mono ?_; rintro e w2 ⟨v, rfl, ho2, hb2⟩)
  have hB2 := HBB.out.call hb2
  rw [hz] at ho2
  have hbb := HB.out.trans (hb2.mono HB.out.size)
  rcases ho2.2 with ⟨rfl, h0⟩ | ⟨g1, cap, cur, rfl, _, _, _, _, _, _⟩
  · obtain rfl : xs = [] := List.eq_nil_of_length_eq_zero h0
    have HBB2 := Lib.hid hbb
    clear hB2 hbb ho2
    go_wp2_with (go_at_call 134; refine (HS0.out _ _ _).mono ?_; rintro e w3 ⟨rfl, rfl⟩)
    go_ret
    exact ⟨_, [], rfl, rfl, ⟨.refl _, .nil⟩, OwnX.nil _ _ _, HBB2.out⟩
  · have hcall := HS1.out g1 cap w2 ho2 hB2
    have HCA := Lib.hid hcall
    have HBB2 := Lib.hid hbb
    clear hB2 hbb ho2 hcall
    go_wp2_with (go_at_call 134; refine HCA.out.mono ?_; rintro e w3 ⟨rfl, ys, hl3, hs3, ho3, hb3⟩)
    go_ret
    have hff := HF.out
    exact ⟨_, ys, rfl, hl3, hs3, ho3.base (by omega), HBB2.out.trans (hb3.mono (by omega))⟩
end Go.Proofs.YtkgnapojkijbgaaGreatDoor
/- The contract of matcher.Text. -/
namespace Go.Proofs.YtkgnapojkijbgaaGreatDoor
open Go.RowKit Go.Maps

theorem joinW_lib (ws : List ByteArray) : Lib.join (ws.map (·.data.toList)) [124] = joinW ws := by
  cases ws with
  | nil => rfl
  | cons s r =>
    rw [List.map_cons, Lib.join_cons]
    simp [joinW, Lib.joinTail, List.flatMap, List.map_map, Function.comp_def]
theorem flat_len : ∀ (r : List ByteArray) (k : Nat), (∀ s ∈ r, s.size ≤ 64) → r.length ≤ k → (r.flatMap fun x => 124 :: x.data.toList).length ≤ 65 * k
  | [], _, _, _ => by simp
  | s :: r, 0, _, h => by simp at h
  | s :: r, k + 1, h, hk => by
    have ih := flat_len r k (fun x hx => h x (List.mem_cons_of_mem _ hx)) (by simpa using hk)
    have hs := h s (by simp)
    have e : s.data.toList.length = s.size := by simp
    rw [List.flatMap_cons, List.length_append, List.length_cons]
    omega
theorem joinW_len (ws : List ByteArray) (h : ∀ s ∈ ws, s.size ≤ 64) (hk : ws.length ≤ 8) : (joinW ws).length ≤ 600 := by
  cases ws with
  | nil => simp [joinW]
  | cons s r =>
    have := flat_len r 8 (fun x hx => h x (List.mem_cons_of_mem _ hx)) (by simp at hk; omega)
    have hs := h s (by simp)
    have e : s.data.toList.length = s.size := by simp
    simp only [joinW, List.length_append]
    omega

theorem join_any (a : Option Addr) (c : Nat) (ws : List ByteArray) (W : World) (h : HasStrs W a c ws) (h1 : 1 ≤ ws.length) (h8 : ws.length ≤ 8) (hs : ∀ s ∈ ws, s.size ≤ 64) :
    Calls Tryz.prog 149 #[.slice a ws.length c, .string ⟨#[124]⟩] W fun e w' => e = .returned (.string ⟨(joinW ws).toArray⟩) ∧ Below W.heap.size W w' := by
  obtain ⟨hc, hm, _, h4⟩ := h
  rcases h4 with rfl | ⟨b, off, rfl, hlt, hcell⟩
  · simp at h1
  · have hl := joinW_len ws hs h8
    have e := joinW_lib ws
    have := Tryz.strings_Join b off c ws ⟨#[124]⟩ W (fun j x hx => by
      obtain ⟨hj, rfl⟩ := List.getElem?_eq_some_iff.1 hx
      exact hcell j hj) hlt (by omega) hc (by
        show (Lib.join (ws.map (·.data.toList)) [124]).length ≤ _
        rw [e]; omega)
    rw [show (⟨#[124]⟩ : ByteArray).data.toList = [124] from rfl, e] at this
    exact this

def textV (m : Mat) : ByteArray := if rightM m then ⟨(textM m).toArray⟩ else ⟨#[]⟩
def textE (m : Mat) : Int := if rightM m then 0 else 1
def TextPost (m : Mat) (w : World) (e : Ending) (w' : World) : Prop := e = .returned (.tuple #[.string (textV m), .int .i64 (textE m)]) ∧ Below w.heap.size w w'
theorem right_words {m : Mat} (h : rightM m = true) : (∀ s ∈ m.words, s.size ≤ 64) ∧ 1 ≤ m.words.length ∧ m.words.length ≤ 8 ∧ m.name.size ≤ 64 := by
  obtain ⟨hn, h1, h4, hw, hl1, hl8, _⟩ := (rightM_iff m).1 h
  refine ⟨fun s hs => ?_, hl1, hl8, ?_⟩
  · have := wordsC_all hw s hs
    simp only [wordC, Bool.and_eq_true, decide_eq_true_eq] at this
    have e : s.data.toList.length = s.size := by simp
    omega
  · have e : m.name.data.toList.length = m.name.size := by simp
    simp only [nameC, Bool.and_eq_true, decide_eq_true_eq] at hn
    omega
theorem textM_bytes (m : Mat) : ((((m.name ++ ⟨(signT m.how).toArray⟩) ++ ⟨#[34]⟩) ++ ⟨(joinW m.words).toArray⟩) ++ ⟨#[34]⟩ : ByteArray) = ⟨(textM m).toArray⟩ := by
  apply bytes_ext
  simp [textM, ByteArray.data_append]

theorem map_call {w w1 : World} {b n : Nat} {D : DataW Unit} (h : w.ownsMap Tryz.prog 3 signElem b n D) (hb : Below w.heap.size w w1) : w1.ownsMap Tryz.prog 3 signElem b n D :=
  h.kept (row := none) ⟨hb.os, hb.tape, hb.output, hb.size, fun k hk _ => hb.block k hk⟩ (by simp)

set_option maxHeartbeats 6400000 in
set_option maxRecDepth 100000 in
theorem mText_any (v : Value) (m : Mat) (w : World) (h : HasMat w v m) : Calls Tryz.prog 151 #[v] w (TextPost m w) := by
  have hrt := fun v W (h : HasMat W v m) => mRight_any v m W h
  have HR := Lib.hid hrt
  clear hrt
  obtain ⟨a, c, rfl, hW, hs, hwf⟩ := h
  cases hr : rightM m with
  | false =>
    have e1 : textV m = ⟨#[]⟩ := by simp [textV, hr]
    have e2 : textE m = 1 := by simp [textE, hr]
    unfold TextPost
    rw [e1, e2]
    rw [hr] at HR
    have hbx := Blk.new w 109 #[.string m.name, .int .i64 m.how, .slice a m.words.length c]
    have hb0 : Below w.heap.size w (w.alloc (.cells #[.string m.name, .int .i64 m.how, .slice a m.words.length c] 109)) := (Below.refl _ _).alloc (Nat.le_refl _) _
    have HM := Lib.hid (show HasMat (w.alloc (.cells #[.string m.name, .int .i64 m.how, .slice a m.words.length c] 109)) (.agg #[.string m.name, .int .i64 m.how, .slice a m.words.length c]) m from ⟨a, c, rfl, hW.call hb0, hs, hwf⟩)
    clear hr e1 e2 hW hs hwf
    go_enter Tryz.func151, Tryz.ntmps151
    go_upto_region 1 with fail
    generalize w.alloc (.cells #[.string m.name, .int .i64 m.how, .slice a m.words.length c] 109) = wx at *
    obtain ⟨c0, c1, c2⟩ := hbx.cells3
    go_wp2_with (go_at_call 170; refine (HR.out _ _ HM.out).mono ?_; rintro e w2 ⟨rfl, hb2⟩)
    go_ret2
    exact ⟨rfl, bthen hb0 hb2⟩
  | true =>
    have e1 : textV m = ⟨(textM m).toArray⟩ := by simp [textV, hr]
    have e2 : textE m = 0 := by simp [textE, hr]
    obtain ⟨q1, q2, q3, q4⟩ := right_words hr
    unfold TextPost
    rw [e1, e2, ← textM_bytes]
    rw [hr] at HR
    have hbx := Blk.new w 109 #[.string m.name, .int .i64 m.how, .slice a m.words.length c]
    have hb0 : Below w.heap.size w (w.alloc (.cells #[.string m.name, .int .i64 m.how, .slice a m.words.length c] 109)) := (Below.refl _ _).alloc (Nat.le_refl _) _
    have HM := Lib.hid (show HasMat (w.alloc (.cells #[.string m.name, .int .i64 m.how, .slice a m.words.length c] 109)) (.agg #[.string m.name, .int .i64 m.how, .slice a m.words.length c]) m from ⟨a, c, rfl, hW.call hb0, hs, hwf⟩)
    have hW0 := hW.call hb0
    have HJ := Lib.hid (fun W h => join_any a c m.words W h q2 q3 q1)
    have hsv := signVal_is m.how
    have HL0 := fun (W : World) (b : Nat) (hm : W.ownsMap Tryz.prog 3 signElem b 4 D4) => look_sign1 hm m.how hwf
    rw [hsv] at HL0
    have HL := Lib.hid HL0
    have hsg : (signT m.how).length ≤ 2 := by
      unfold signT
      rcases signC_cases m.how with ⟨_, e⟩ | ⟨_, e⟩ | ⟨_, e⟩ | ⟨_, e⟩ | ⟨_, e⟩ <;> rw [e] <;> simp
    have hjl := joinW_len m.words q1 q3
    clear hr e1 e2 hW hs hwf q1 HL0 hsv
    generalize joinW m.words = J at *
    generalize (signT m.how) = T at *
    generalize onesC m.how = X at *
    generalize mostC m.how = M at *
    go_enter Tryz.func151, Tryz.ntmps151
    go_upto_region 1 with fail
    generalize w.alloc (.cells #[.string m.name, .int .i64 m.how, .slice a m.words.length c] 109) = wx at *
    obtain ⟨c0, c1, c2⟩ := hbx.cells3
    go_upto_region 3 with (go_at_call 170; refine (HR.out _ _ HM.out).mono ?_; rintro e w2 ⟨rfl, hb2⟩)
    have hbx2 := hbx.call hb2
    have hW2 := hW0.call hb2
    have hb3 := bthen hb0 hb2
    clear c0 c1 c2 hbx hW0 hb0 HM HR hb2
    have HB := Lib.hid hbx2
    have HW2 := Lib.hid hW2
    have HB3 := Lib.hid hb3
    have HKP := Lib.hid (fun W (h : Below w2.heap.size w2 W) => (HB.out.call h).cells3)
    have hs0 := run_sign0 ⟨T.toArray⟩ M X
    clear hbx2 hW2 hb3
    have p1 : ¬ 9223372036854775807 < m.name.size + T.length := by omega
    have p2 : ¬ 9223372036854775807 < m.name.size + T.length + 1 := by omega
    have p3 : ¬ 9223372036854775807 < m.name.size + T.length + 1 + J.length := by omega
    have p4 : ¬ 9223372036854775807 < m.name.size + T.length + 1 + J.length + 1 := by omega
    clear hsg hjl q2 q3 q4
    go_region_held3 (fun w' => w'.cell? ⟨w.heap.size, 0, none⟩ = some (.string m.name) ∧ w'.cell? ⟨w.heap.size, 1, none⟩ = some (.int .i64 m.how) ∧ w'.cell? ⟨w.heap.size, 2, none⟩ = some (.slice a m.words.length c))
      (first | exact HKP.out _ (bthen (bthen (Below.refl _ _).drew hbs) hbj) | exact HKP.out _ (bthen (bthen (Below.refl _ _).drew hbj) hbs) | exact HKP.out _ (bthen (Below.refl _ _).drew hbs) | exact HKP.out _ (bthen (Below.refl _ _).drew hbj) | exact HKP.out _ (Below.refl _ _).drew)
      (first
      | (go_at_call 198; (with_reducible refine (signs_any _).mono ?_); rintro e ws ⟨rfl, hm, hbs⟩; (first | (have hlk := HL.out ws wj.heap.size hm) | (have hlk := HL.out ws w2.heap.size hm)))
      | (go_at_call 149; (with_reducible refine (HJ.out _ ?_).mono ?_); (first | exact (HW2.out.drew.call hbs) | exact HW2.out.drew); rintro e wj ⟨rfl, hbj⟩; (try have hlj := HL.out wj w2.heap.size (map_call hm hbj))))
    all_goals
      go_wp2_with fail
      go_ret2
      first
      | exact ⟨rfl, bthen (bthen HB3.out.drew hbs) hbj⟩
      | exact ⟨rfl, bthen (bthen HB3.out.drew hbj) hbs⟩
end Go.Proofs.YtkgnapojkijbgaaGreatDoor
/- Plain mathematics for layer 1: a number's bytes, the check of bytes as a function on natural numbers. It speaks of no program. -/
namespace Go.Proofs.YtkgnapojkijbgaaGreatDoor

/-- a number's bytes -/
def numB (n : Nat) : List UInt8 :=
  if h : n < 128 then [UInt8.ofNat n] else UInt8.ofNat (n % 128 + 128) :: numB (n / 128)
termination_by n
decreasing_by omega

theorem numB_lt {n : Nat} (h : n < 128) : numB n = [UInt8.ofNat n] := by rw [numB]; simp [h]
theorem numB_ge {n : Nat} (h : 128 ≤ n) : numB n = UInt8.ofNat (n % 128 + 128) :: numB (n / 128) := by
  rw [numB]; simp [show ¬ n < 128 by omega]

theorem numB_pos (n : Nat) : 1 ≤ (numB n).length := by
  rw [numB]; split <;> simp

theorem numB_len (k : Nat) : ∀ n, n < 128 ^ (k + 1) → (numB n).length ≤ k + 1 := by
  induction k with
  | zero => intro n h; rw [numB_lt (by simpa using h)]; simp
  | succ k ih =>
    intro n h
    by_cases hn : n < 128
    · rw [numB_lt hn]; simp
    · rw [numB_ge (by omega)]
      have := ih (n / 128) (by rw [Nat.pow_succ] at h; omega)
      simp; omega
theorem numB_len9 {n : Nat} (h : n < 9223372036854775808) : (numB n).length ≤ 9 := numB_len 8 n (by omega)


/-- what a text's beginning is read as: the number, its bytes, the error -/
def rdF : Nat → Nat → List UInt8 → Nat → Nat × Nat × Nat
  | 0, _, _, _ => (0, 0, 2)
  | _ + 1, _, [], _ => (0, 0, 3)
  | f + 1, i, b :: l, acc => if 128 ≤ b.toNat then rdF f (i + 1) l (acc + (b.toNat - 128) * 2 ^ (7 * i)) else if b.toNat = 0 ∧ 0 < i then (0, 0, 6) else (acc + b.toNat * 2 ^ (7 * i), i + 1, 0)
def rd (l : List UInt8) : Nat × Nat × Nat := rdF 9 0 l 0

theorem rd_bd {i acc b : Nat} (ha : acc < 2 ^ (7 * i)) (hb : b ≤ 127) : acc + b * 2 ^ (7 * i) < 2 ^ (7 * (i + 1)) := by
  have e : 2 ^ (7 * (i + 1)) = 128 * 2 ^ (7 * i) := by rw [show 7 * (i + 1) = 7 * i + 7 by omega, Nat.pow_add]; omega
  have := Nat.mul_le_mul_right (2 ^ (7 * i)) hb
  omega
theorem rd_63 {i x : Nat} (hi : i ≤ 8) (h : x < 2 ^ (7 * (i + 1))) : x ≤ 9223372036854775807 := by
  have := Nat.pow_le_pow_right (n := 2) (by omega) (show 7 * (i + 1) ≤ 63 by omega)
  omega
theorem rd_int {i acc b : Nat} (h : acc + b * 2 ^ (7 * i) ≤ 9223372036854775807) : (acc : Int) + (b : Int) * 2 ^ (7 * i) ≤ 9223372036854775807 ∧ (0 : Int) ≤ (b : Int) * 2 ^ (7 * i) ∧ ((acc + b * 2 ^ (7 * i) : Nat) : Int) = (acc : Int) + (b : Int) * 2 ^ (7 * i) := by
  have e : ((b * 2 ^ (7 * i) : Nat) : Int) = (b : Int) * 2 ^ (7 * i) := by push_cast; rfl
  refine ⟨by omega, by omega, by omega⟩
theorem drop_cons (l : List UInt8) (i : Nat) (h : i < l.length) : l.drop i = l[i] :: l.drop (i + 1) := List.drop_eq_getElem_cons h

/-- the check's step, on numbers of any size -/
def stepC (c : Nat) : Nat := if c % 2 = 1 then (c / 2) ^^^ 3988292384 else c / 2
def stepN : Nat → Nat → Nat
  | 0, c => c
  | k + 1, c => stepC (stepN k c)
def onB (c b : Nat) : Nat := stepN 8 (c ^^^ b)
def crcS (c : Nat) (l : List UInt8) : Nat := l.foldl (fun c b => onB c b.toNat) c
def crcN (l : List UInt8) : Nat := crcS 4294967295 l ^^^ 4294967295

theorem stepC_lt {c : Nat} (h : c < 4294967296) : stepC c < 4294967296 := by
  unfold stepC
  split
  · exact Nat.xor_lt_two_pow (n := 32) (by omega) (by omega)
  · omega
theorem stepN_lt {c : Nat} (k : Nat) (h : c < 4294967296) : stepN k c < 4294967296 := by
  induction k with
  | zero => exact h
  | succ k ih => exact stepC_lt ih
theorem onB_lt {c b : Nat} (h : c < 4294967296) (hb : b < 256) : onB c b < 4294967296 :=
  stepN_lt 8 (Nat.xor_lt_two_pow (n := 32) (by omega) (by omega))
theorem crcS_lt (l : List UInt8) : ∀ {c : Nat}, c < 4294967296 → crcS c l < 4294967296 := by
  induction l with
  | nil => intro c h; exact h
  | cons b l ih => intro c h; exact ih (onB_lt h b.toNat_lt)
theorem crcN_lt (l : List UInt8) : crcN l < 4294967296 := Nat.xor_lt_two_pow (n := 32) (crcS_lt l (by omega)) (by omega)
theorem crcN_nil : crcN [] = 0 := by simp [crcN, crcS]
theorem crcS_app (c : Nat) (a b : List UInt8) : crcS c (a ++ b) = crcS (crcS c a) b := by simp [crcS]
theorem crcS_snoc (c : Nat) (a : List UInt8) (b : UInt8) : crcS c (a ++ [b]) = onB (crcS c a) b.toNat := by simp [crcS]

theorem take_snoc (l : List UInt8) (k : Nat) (h : k < l.length) : l.take (k + 1) = l.take k ++ [l[k]] := by
  rw [List.take_succ_eq_append_getElem h]

/-- the number of a row of digits to the base 128, the lowest first -/
def rdv : List UInt8 → Nat
  | [] => 0
  | b :: l => b.toNat % 128 + 128 * rdv l
theorem rdv_lt (l : List UInt8) : rdv l < 2 ^ (7 * l.length) := by
  induction l with
  | nil => simp [rdv]
  | cons b l ih =>
    rw [rdv, List.length_cons, show 7 * (l.length + 1) = 7 * l.length + 7 by omega, Nat.pow_add]
    omega
theorem rdF_low : ∀ (j f i : Nat) (l : List UInt8) (acc : Nat) (hj : j < l.length), j < f → (∀ k (hk : k < j), 128 ≤ (l[k]'(by omega)).toNat) → l[j].toNat < 128 →
    rdF f i l acc = if l[j].toNat = 0 ∧ 0 < i + j then (0, 0, 6) else (acc + rdv (l.take (j + 1)) * 2 ^ (7 * i), i + j + 1, 0) := by
  intro j
  induction j with
  | zero =>
    intro f i l acc hj hf _ hb
    match l, f, hj, hf with
    | b :: l, f + 1, hj, hf =>
      simp only [List.getElem_cons_zero] at hb
      rw [rdF, if_neg (by omega)]
      simp only [List.getElem_cons_zero, Nat.add_zero]
      split
      · rfl
      · simp [rdv, Nat.mod_eq_of_lt hb]
  | succ j ih =>
    intro f i l acc hj hf hall hb
    match l, f, hj, hf with
    | b :: l, f + 1, hj, hf =>
      simp only [List.getElem_cons_succ] at hb
      have h0 : 128 ≤ b.toNat := hall 0 (by omega)
      rw [rdF, if_pos h0, ih f (i + 1) l _ (by simpa using hj) (by omega) (fun k hk => by have := hall (k + 1) (by omega); simpa using this) hb]
      simp only [List.getElem_cons_succ]
      rw [show i + 1 + j = i + (j + 1) by omega]
      split
      · rfl
      · have hm : b.toNat % 128 = b.toNat - 128 := by have := b.toNat_lt; omega
        rw [List.take_succ_cons, rdv, hm, show 7 * (i + 1) = 7 * i + 7 by omega, Nat.pow_add, Nat.add_mul]
        congr 1
        rw [Nat.add_assoc]
        congr 2
        rw [show (2 : Nat) ^ 7 = 128 by rfl, Nat.mul_comm (2 ^ (7 * i)) 128, ← Nat.mul_assoc, Nat.mul_comm _ 128]
theorem rdF_high : ∀ (f i : Nat) (l : List UInt8) (acc : Nat), (∀ k (hk : k < l.length), k < f → 128 ≤ l[k].toNat) → rdF f i l acc = if f ≤ l.length then (0, 0, 2) else (0, 0, 3) := by
  intro f
  induction f with
  | zero => intro i l acc _; simp [rdF]
  | succ f ih =>
    intro i l acc hall
    match l with
    | [] => simp [rdF]
    | b :: l =>
      have h0 : 128 ≤ b.toNat := hall 0 (by simp) (by omega)
      rw [rdF, if_pos h0, ih (i + 1) l _ (fun k hk hf => by have := hall (k + 1) (by simpa using hk) (by omega); simpa using this)]
      simp

theorem low_or_high (l : List UInt8) : ∀ n : Nat, (∃ j, j < n ∧ ∃ hj : j < l.length, (∀ k (hk : k < j), 128 ≤ (l[k]'(by omega)).toNat) ∧ l[j].toNat < 128) ∨ ∀ k (hk : k < l.length), k < n → 128 ≤ l[k].toNat
  | 0 => .inr fun k _ h => by omega
  | n + 1 => by
    rcases low_or_high l n with ⟨j, h1, h2, h3⟩ | h
    · exact .inl ⟨j, by omega, h2, h3⟩
    · by_cases hn : n < l.length
      · by_cases hb : l[n].toNat < 128
        · exact .inl ⟨n, by omega, hn, fun k hk => h k (by omega) hk, hb⟩
        · exact .inr fun k hk hkn => by
            by_cases e : k = n
            · subst e; omega
            · exact h k hk (by omega)
      · exact .inr fun k hk hkn => h k hk (by omega)
theorem rd_low {l : List UInt8} {j : Nat} (h9 : j < 9) (hj : j < l.length) (hall : ∀ k (hk : k < j), 128 ≤ (l[k]'(by omega)).toNat) (hb : l[j].toNat < 128) :
    rd l = if l[j].toNat = 0 ∧ 0 < j then (0, 0, 6) else (rdv (l.take (j + 1)), j + 1, 0) := by
  rw [rd, rdF_low j 9 0 l 0 hj h9 hall hb]; simp
theorem rd_high {l : List UInt8} (hall : ∀ k (hk : k < l.length), k < 9 → 128 ≤ l[k].toNat) : rd l = if 9 ≤ l.length then (0, 0, 2) else (0, 0, 3) := rdF_high 9 0 l 0 hall
theorem rdv_drop {l : List UInt8} {i : Nat} (h : i < l.length) : rdv (l.drop i) = l[i].toNat % 128 + 128 * rdv (l.drop (i + 1)) := by
  rw [List.drop_eq_getElem_cons h, rdv]
theorem rdv_63 {l : List UInt8} (h : l.length ≤ 9) : rdv l ≤ 9223372036854775807 := by
  have h1 := rdv_lt l
  have := Nat.pow_le_pow_right (n := 2) (by omega) (show 7 * l.length ≤ 63 by omega)
  omega

end Go.Proofs.YtkgnapojkijbgaaGreatDoor
/- The contract of frame.Number. -/
namespace Go.Proofs.YtkgnapojkijbgaaGreatDoor
open Go.RowKit

theorem Tryz.infoB : (Tryz.prog.info? 5).map (fun i => (i.zero, i.size, i.bytes)) = some (some (.int .u8 0), 1, 1) := by kernel_rfl

set_option maxHeartbeats 800000 in
set_option maxRecDepth 100000 in
theorem number_any (n : Nat) (w : World) (hn : n < 4611686018427387904) :
    Calls Tryz.prog 145 #[.int .i64 n] w fun e w' => e = .returned (.tuple #[.string ⟨(numB n).toArray⟩, .int .i64 0]) ∧ Below w.heap.size w w' := by
  obtain ⟨i0, hi, hz0, hz1, hz2⟩ := info_parts Tryz.infoB
  have hL := numB_len9 (n := n) (by omega)
  go_enter Tryz.func145, Tryz.ntmps145
  go_wp2
  go_loopw [0, 4] (fun a v wr => ∃ (m : Nat) (xs : List UInt8), m ≤ n ∧ a = .int .i64 m ∧ xs ++ numB m = numB n ∧ wr.ownsRow w.heap.size 5 1 v xs.length (bytesV xs) ∧ Below w.heap.size w wr)
    (fun a _ _ => (intOf a).toNat)
  case atStart =>
    exact ⟨n, [], Nat.le_refl _, rfl, rfl, World.ownsRow_nil _ _ _ _, Below.refl _ _⟩
  case round =>
    obtain ⟨m, xs, hm, rfl, hx, hown, hb⟩ := hrel
    have hl : xs.length + (numB m).length ≤ 9 := by rw [← List.length_append, hx]; exact hL
    have hp := numB_pos m
    have HX := Lib.hid hx
    clear hx
    by_cases hlt : 128 ≤ m
    · go_wp2_with (at_builtin; refine wpList_push _ rfl _ _ 79 rfl w.heap.size 5 i0 (.int .u8 0) 1 Tryz.underlying79 hi hz0 hz1 hz2 rfl _ _ _ rfl hown _ rfl rfl ?c1 ?c2 ?c3 ?_)
      case c1 => unfold maxLen; omega
      case c2 => omega
      case c3 => exact hb.size
      intro g c w2 hown2 hg2
      go_wp2
      go_roundw
      case rel =>
        refine ⟨m / 128, xs ++ [UInt8.ofNat (m % 128 + 128)], by omega, by go_num, ?_, ?_, hb.grown hg2 hb.size (fun k hk => (hown.lt k hk).1)⟩
        · rw [← HX.out, numB_ge hlt]; simp
        · rw [← bytesV_push xs (m % 128 + 128) ((m : Int) % 128 + 128) (by omega) (by omega)]; simpa using hown2
      case measure => simp [intOf]; omega
    · go_wp2_with (at_builtin; refine wpList_push _ rfl _ _ 79 rfl w.heap.size 5 i0 (.int .u8 0) 1 Tryz.underlying79 hi hz0 hz1 hz2 rfl _ _ _ rfl hown _ rfl rfl ?c1 ?c2 ?c3 ?_)
      case c1 => unfold maxLen; omega
      case c2 => omega
      case c3 => exact hb.size
      intro g c w2 hown2 hg2
      have hf : xs ++ [UInt8.ofNat m] = numB n := by rw [← HX.out, numB_lt (by omega)]
      have hcv := run_str_own (P := Tryz.prog) (src := 79) (dst := 9) (l := xs ++ [UInt8.ofNat m]) (w := w2) (g := g) (cap := c) (base := w.heap.size) Tryz.underlying79 Tryz.underlying5 Tryz.underlying9
        (by rw [← bytesV_push xs m _ rfl (by omega)]; simpa using hown2)
      rw [List.length_append, List.length_singleton] at hcv
      rw [hf] at hcv
      clear hf
      go_wp2
      go_ret2
      exact ⟨rfl, hb.grown hg2 hb.size (fun k hk => (hown.lt k hk).1)⟩

theorem number_bad (n : Int) (w : World) (hn : n < 0 ∨ 4611686018427387904 ≤ n) :
    Calls Tryz.prog 145 #[.int .i64 n] w fun e w' => e = .returned (.tuple #[.string ⟨#[]⟩, .int .i64 1]) ∧ w = w' := by
  by_cases h0 : n < 0
  · go_enter Tryz.func145, Tryz.ntmps145
    go_wp2
    go_ret2
    exact ⟨rfl, rfl⟩
  · have h1 : 4611686018427387903 < n := by omega
    go_enter Tryz.func145, Tryz.ntmps145
    go_wp2
    go_ret2
    exact ⟨rfl, rfl⟩

end Go.Proofs.YtkgnapojkijbgaaGreatDoor
/- The contract of the document's own Number of layer 1. -/
namespace Go.Proofs.YtkgnapojkijbgaaGreatDoor
open Go.RowKit

set_option maxHeartbeats 800000 in
set_option maxRecDepth 100000 in
theorem rnumber_any (n : Nat) (w : World) (hn : n < 4611686018427387904) :
    Calls Tryz.prog 44 #[.int .i64 n] w fun e w' => e = .returned (.string ⟨(numB n).toArray⟩) ∧ Below w.heap.size w w' := by
  obtain ⟨i0, hi, hz0, hz1, hz2⟩ := info_parts Tryz.infoB
  have hL := numB_len9 (n := n) (by omega)
  go_enter Tryz.func44, Tryz.ntmps44
  go_wp2
  go_loopw [0, 3] (fun a v wr => ∃ (m : Nat) (xs : List UInt8), m ≤ n ∧ a = .int .i64 m ∧ xs ++ numB m = numB n ∧ wr.ownsRow w.heap.size 5 1 v xs.length (bytesV xs) ∧ Below w.heap.size w wr)
    (fun a _ _ => (intOf a).toNat)
  case atStart =>
    exact ⟨n, [], Nat.le_refl _, rfl, rfl, World.ownsRow_made w #[] 0 (Nat.le_refl _) (by unfold maxLen; omega) (by simp), (Below.refl _ _).alloc (Nat.le_refl _) _⟩
  case round =>
    obtain ⟨m, xs, hm, rfl, hx, hown, hb⟩ := hrel
    have hl : xs.length + (numB m).length ≤ 9 := by rw [← List.length_append, hx]; exact hL
    have hp := numB_pos m
    have HX := Lib.hid hx
    clear hx
    by_cases hlt : 128 ≤ m
    · go_wp2_with (at_builtin; refine wpList_push _ rfl _ _ 79 rfl w.heap.size 5 i0 (.int .u8 0) 1 Tryz.underlying79 hi hz0 hz1 hz2 rfl _ _ _ rfl hown _ rfl rfl ?c1 ?c2 ?c3 ?_)
      case c1 => unfold maxLen; omega
      case c2 => omega
      case c3 => exact hb.size
      intro g c w2 hown2 hg2
      go_wp2
      go_roundw
      case rel =>
        refine ⟨m / 128, xs ++ [UInt8.ofNat (m % 128 + 128)], by omega, by go_num, ?_, ?_, hb.grown hg2 hb.size (fun k hk => (hown.lt k hk).1)⟩
        · rw [← HX.out, numB_ge hlt]; simp
        · rw [← bytesV_push xs (m % 128 + 128) (128 + (m : Int) % 128) (by omega) (by omega)]; simpa using hown2
      case measure => first | (simp [intOf]; done) | (simp [intOf]; omega)
    · go_wp2_with (at_builtin; refine wpList_push _ rfl _ _ 79 rfl w.heap.size 5 i0 (.int .u8 0) 1 Tryz.underlying79 hi hz0 hz1 hz2 rfl _ _ _ rfl hown _ rfl rfl ?c1 ?c2 ?c3 ?_)
      case c1 => unfold maxLen; omega
      case c2 => omega
      case c3 => exact hb.size
      intro g c w2 hown2 hg2
      have hf : xs ++ [UInt8.ofNat m] = numB n := by rw [← HX.out, numB_lt (by omega)]
      have hcv := run_str_own (P := Tryz.prog) (src := 79) (dst := 9) (l := xs ++ [UInt8.ofNat m]) (w := w2) (g := g) (cap := c) (base := w.heap.size) Tryz.underlying79 Tryz.underlying5 Tryz.underlying9
        (by rw [← bytesV_push xs m _ rfl (by omega)]; simpa using hown2)
      rw [List.length_append, List.length_singleton] at hcv
      rw [hf] at hcv
      clear hf
      go_wp2
      go_ret
      exact ⟨rfl, hb.grown hg2 hb.size (fun k hk => (hown.lt k hk).1)⟩

end Go.Proofs.YtkgnapojkijbgaaGreatDoor
/- The contracts of what binds texts: frame.Bind, and the document's own May, Bind, Same. -/
namespace Go.Proofs.YtkgnapojkijbgaaGreatDoor
open Go.RowKit

theorem owns_call {w w1 : World} {base e size n : Nat} {v : Value} {xs : List Value} (h : w.ownsRow base e size v n xs) (hb : Below w.heap.size w w1) : w1.ownsRow base e size v n xs :=
  h.kept (row := none) ⟨hb.os, hb.tape, hb.output, hb.size, fun k hk _ => hb.block k hk⟩ (by cases v.ownBlock <;> simp)
theorem run_str_any {P : Program} {w : World} {base src dst e : Nat} {v : Value} {l : List UInt8} (hs : P.underlying src = some (.slice e)) (he : P.underlying e = some (.int .u8)) (hd : P.underlying dst = some .string)
    (hown : w.ownsRow base e 1 v l.length (bytesV l)) : (convert src dst v).run P w = .ok (.string ⟨l.toArray⟩) w := by
  rcases hown.2 with ⟨rfl, h0⟩ | ⟨g, cap, cur, rfl, _⟩
  · obtain rfl : l = [] := List.eq_nil_of_length_eq_zero h0
    exact run_convert_bytes_nil w src e hs he 0 0 dst hd
  · exact run_str_own hs he hd hown

theorem src_list {P : Program} {tx : TypeId} (w : World) (hk : P.underlying tx = some .string) (l : List UInt8) : Src P 1 tx (.string ⟨l.toArray⟩) l.length (bytesV l) w := by
  have h := Src.ofString (P := P) w hk ⟨l.toArray⟩
  simpa [byteCells, bytesV, ByteArray.size] using h
theorem src_text {P : Program} {tx : TypeId} (w : World) (hk : P.underlying tx = some .string) (s : ByteArray) : Src P 1 tx (.string s) s.size (bytesV s.data.toList) w :=
  Src.ofString w hk s

/-- texts, bound -/
def bindL (ss : List ByteArray) : List UInt8 := ss.flatMap fun s => numB s.size ++ s.data.toList
theorem bindL_snoc (ss : List ByteArray) (s : ByteArray) : bindL (ss ++ [s]) = bindL ss ++ numB s.size ++ s.data.toList := by simp [bindL]
theorem bindL_take (ss : List ByteArray) (k : Nat) (h : k < ss.length) : bindL (ss.take (k + 1)) = bindL (ss.take k) ++ numB ss[k].size ++ ss[k].data.toList := by
  rw [List.take_succ_eq_append_getElem h, bindL_snoc]
theorem bindL_len (ss : List ByteArray) (hs : ∀ s ∈ ss, s.size ≤ 8200) : (bindL ss).length ≤ ss.length * 8209 := by
  induction ss with
  | nil => simp [bindL]
  | cons s ss ih =>
    have h1 := ih fun x hx => hs x (by simp [hx])
    have h2 := hs s (by simp)
    have h3 := numB_len9 (n := s.size) (by omega)
    have e : bindL (s :: ss) = numB s.size ++ s.data.toList ++ bindL ss := rfl
    have h4 : s.data.toList.length = s.size := by simp
    rw [e, List.length_append, List.length_append, List.length_cons, h4]
    omega

def mayB (ss : List ByteArray) : Bool := decide (ss.length ≤ 512) && ss.all fun s => decide (s.size ≤ 8192)
theorem mayB_true {ss : List ByteArray} (h : mayB ss = true) : ss.length ≤ 512 ∧ ∀ s ∈ ss, s.size ≤ 8192 := by
  simpa [mayB] using h
theorem first_bad (p : ByteArray → Prop) [DecidablePred p] : ∀ (ss : List ByteArray), (¬ ∀ s ∈ ss, p s) → ∃ j, ∃ hj : j < ss.length, ¬ p ss[j] ∧ ∀ k (hk : k < j), p (ss[k]'(by omega))
  | [], h => absurd (fun s hs => by cases hs) h
  | s :: ss, h => by
    by_cases hs : p s
    · obtain ⟨j, hj, hb, ha⟩ := first_bad p ss (fun hall => h fun x hx => by
        rcases List.mem_cons.1 hx with rfl | hx
        · exact hs
        · exact hall x hx)
      refine ⟨j + 1, by simpa using hj, by simpa using hb, fun k hk => ?_⟩
      match k, hk with
      | 0, _ => simpa using hs
      | k + 1, hk => simpa using ha k (by omega)
    · exact ⟨0, by simp, by simpa using hs, fun k hk => by omega⟩
theorem mayB_false {ss : List ByteArray} (h : mayB ss = false) (hl : ss.length ≤ 512) : ∃ j, ∃ hj : j < ss.length, ¬ ss[j].size ≤ 8192 ∧ ∀ k (hk : k < j), (ss[k]'(by omega)).size ≤ 8192 := by
  refine first_bad (fun s => s.size ≤ 8192) ss fun hall => ?_
  have : mayB ss = true := by simpa [mayB] using ⟨hl, hall⟩
  rw [h] at this
  cases this

set_option maxHeartbeats 1600000 in
set_option maxRecDepth 100000 in
theorem bind_some (b off c : Nat) (ss : List ByteArray) (w : World) (_hlc : ss.length ≤ c) (_hcm : c ≤ maxLen) (hb : b < w.heap.size)
    (hcell : ∀ i (h : i < ss.length), w.cell? ⟨b, off + i, none⟩ = some (.string ss[i])) (hl : ss.length ≤ 512) (hsz : ∀ s ∈ ss, s.size ≤ 8192) :
    Calls Tryz.prog 80 #[.slice (some ⟨b, off, none⟩) ss.length c] w fun e w' => e = .returned (.tuple #[.string ⟨(bindL ss).toArray⟩, .int .i64 0]) ∧ Below w.heap.size w w' := by
  obtain ⟨i0, hi, hz0, hz1, hz2⟩ := info_parts Tryz.infoB
  skip
  have HC := Lib.hid hcell
  have HS := Lib.hid hsz
  clear hcell hsz
  go_enter Tryz.func80, Tryz.ntmps80
  go_wp2_with fail
  go_loopw [4, 14] (fun v i wr => ∃ k : Nat, k ≤ ss.length ∧ i = .int .i64 k ∧ wr.ownsRow w.heap.size 5 1 v (bindL (ss.take k)).length (bytesV (bindL (ss.take k))) ∧ Below w.heap.size w wr) (fun _ i _ => ss.length - (intOf i).toNat)
  case atStart => exact ⟨0, Nat.zero_le _, rfl, World.ownsRow_nil _ _ _ _, Below.refl _ _⟩
  case round =>
    obtain ⟨k, hk, rfl, hown, hbl⟩ := hrel
    have hlen := bindL_len (ss.take k) (fun s hs => by have := HS.out s (List.mem_of_mem_take hs); omega)
    rw [List.length_take] at hlen
    by_cases hkL : k < ss.length
    · have hc := (hbl.cell (p := ⟨b, off + k, none⟩) hb).trans (HC.out k (by omega))
      have hs := HS.out ss[k] (List.getElem_mem _)
      have hnl := numB_len9 (n := ss[k].size) (by omega)
      have htk := Lib.hid (bindL_take ss k hkL)
      go_wp2_with (first | (go_at_call 145; refine (number_any ss[k].size _ (by omega)).mono ?_; rintro e w2 ⟨rfl, hb2⟩; have hown2 := owns_call hown hb2) | (at_builtin; refine wpList_append_src _ rfl _ _ 79 9 rfl w.heap.size 5 i0 (.int .u8 0) 1 1 Tryz.underlying79 hi hz0 hz1 hz2 rfl _ _ _ rfl (by assumption) _ _ _ rfl (src_list _ Tryz.underlying9 _) ?c1 ?c2 ?c3 ?_))
      case c1 => unfold maxLen; omega
      case c2 => omega
      case c3 => exact Nat.le_trans hbl.size hb2.size
      intro v3 w3 hown3 hg3
      go_wp2_with (at_builtin; refine wpList_append_src _ rfl _ _ 79 9 rfl w.heap.size 5 i0 (.int .u8 0) 1 1 Tryz.underlying79 hi hz0 hz1 hz2 rfl _ _ _ rfl hown3 _ _ _ rfl (src_text _ Tryz.underlying9 _) ?d1 ?d2 ?d3 ?_)
      case d1 => unfold maxLen; omega
      case d2 => omega
      case d3 => exact Nat.le_trans (Nat.le_trans hbl.size hb2.size) hg3.size
      intro v4 w4 hown4 hg4
      have hbl4 : Below w.heap.size w w4 := ((bthen hbl hb2).grown hg3 (Nat.le_trans hbl.size hb2.size) (fun k hk => (hown2.lt k hk).1)).grown hg4 (Nat.le_trans (Nat.le_trans hbl.size hb2.size) hg3.size) (fun k hk => (hown3.lt k hk).1)
      have hown5 : w4.ownsRow w.heap.size 5 1 v4 (bindL (ss.take (k + 1))).length (bytesV (bindL (ss.take (k + 1)))) := by
        rw [htk.out, bytesV_app, bytesV_app, List.length_append, List.length_append]
        simpa using hown4
      clear hown hown2 hown3 hown4 hg3 hg4 hb2
      go_wp2
      go_roundw
      case rel => exact ⟨k + 1, by omega, by go_num, hown5, hbl4⟩
      case measure => simp [intOf]; omega
    · obtain rfl : k = ss.length := by omega
      rw [List.take_of_length_le (Nat.le_refl _)] at hown
      have hcv := run_str_any (P := Tryz.prog) (src := 79) (dst := 9) Tryz.underlying79 Tryz.underlying5 Tryz.underlying9 hown
      clear hown hlen
      go_wp2
      go_ret2
      exact ⟨rfl, hbl⟩

theorem bind_none (a : Option Addr) (c : Nat) (w : World) :
    Calls Tryz.prog 80 #[.slice a 0 c] w fun e w' => e = .returned (.tuple #[.string ⟨(bindL []).toArray⟩, .int .i64 0]) ∧ Below w.heap.size w w' := by
  have hcv := run_convert_bytes_nil (P := Tryz.prog) w 79 5 Tryz.underlying79 Tryz.underlying5 0 0 9 Tryz.underlying9
  go_enter Tryz.func80, Tryz.ntmps80
  go_wp2
  refine wp_loop_rounds 1 ?_
  rw [rounds_succ]
  go_wp2
  go_ret2
  exact ⟨rfl, Below.refl _ _⟩

theorem bind_ok (a : Option Addr) (c : Nat) (ss : List ByteArray) (w : World) (h : HasStrs w a c ss) (hm : mayB ss = true) :
    Calls Tryz.prog 80 #[.slice a ss.length c] w fun e w' => e = .returned (.tuple #[.string ⟨(bindL ss).toArray⟩, .int .i64 0]) ∧ Below w.heap.size w w' := by
  obtain ⟨hl, hs⟩ := mayB_true hm
  obtain ⟨h1, h2, h3, h4⟩ := h
  rcases h4 with rfl | ⟨b, off, rfl, hb, hc⟩
  · exact bind_none a c w
  · exact bind_some b off c ss w h1 h2 hb hc hl hs

set_option maxHeartbeats 800000 in
set_option maxRecDepth 100000 in
theorem bind_bad (a : Option Addr) (c : Nat) (ss : List ByteArray) (w : World) (h : HasStrs w a c ss) (hm : mayB ss = false) :
    Calls Tryz.prog 80 #[.slice a ss.length c] w fun e w' => e = .returned (.tuple #[.string ⟨#[]⟩, .int .i64 2]) ∧ Below w.heap.size w w' := by
  obtain ⟨h1, h2, h3, h4⟩ := h
  unfold maxLen at h2
  by_cases hl : ss.length ≤ 512
  · obtain ⟨j, hj, hbad, hall⟩ := mayB_false hm hl
    rcases h4 with rfl | ⟨b, off, rfl, hb, hcell⟩
    · cases hj
    · obtain ⟨i0, hi, hz0, hz1, hz2⟩ := info_parts Tryz.infoB
      have HC := Lib.hid hcell
      have HA := Lib.hid hall
      have HM := Lib.hid h3
      clear hcell hall hm h3
      go_enter Tryz.func80, Tryz.ntmps80
      go_wp2_with fail
      go_loopw [4, 14] (fun v i wr => ∃ k : Nat, k ≤ j ∧ i = .int .i64 k ∧ (∃ l : List UInt8, l.length ≤ k * 8209 ∧ wr.ownsRow w.heap.size 5 1 v l.length (bytesV l)) ∧ Below w.heap.size w wr) (fun _ i _ => ss.length - (intOf i).toNat)
      case atStart => exact ⟨0, Nat.zero_le _, rfl, ⟨[], by simp, World.ownsRow_nil _ _ _ _⟩, Below.refl _ _⟩
      case round =>
        obtain ⟨k, hk, rfl, ⟨l, hll, hown⟩, hbl⟩ := hrel
        have hc := (hbl.cell (p := ⟨b, off + k, none⟩) hb).trans (HC.out k (by omega))
        by_cases hkj : k = j
        · subst hkj
          have hs := HM.out ss[k] (List.getElem_mem _)
          unfold maxLen at hs
          go_wp2
          go_ret2
          exact ⟨rfl, hbl⟩
        · have hs := HA.out k (by omega)
          have hnl := numB_len9 (n := ss[k].size) (by omega)
          go_wp2_with (first | (go_at_call 145; refine (number_any ss[k].size _ (by omega)).mono ?_; rintro e w2 ⟨rfl, hb2⟩; have hown2 := owns_call hown hb2) | (at_builtin; refine wpList_append_src _ rfl _ _ 79 9 rfl w.heap.size 5 i0 (.int .u8 0) 1 1 Tryz.underlying79 hi hz0 hz1 hz2 rfl _ _ _ rfl (by assumption) _ _ _ rfl (src_list _ Tryz.underlying9 _) ?c1 ?c2 ?c3 ?_))
          case c1 => unfold maxLen; omega
          case c2 => omega
          case c3 => exact Nat.le_trans hbl.size hb2.size
          intro v3 w3 hown3 hg3
          go_wp2_with (at_builtin; refine wpList_append_src _ rfl _ _ 79 9 rfl w.heap.size 5 i0 (.int .u8 0) 1 1 Tryz.underlying79 hi hz0 hz1 hz2 rfl _ _ _ rfl hown3 _ _ _ rfl (src_text _ Tryz.underlying9 _) ?d1 ?d2 ?d3 ?_)
          case d1 => unfold maxLen; omega
          case d2 => omega
          case d3 => exact Nat.le_trans (Nat.le_trans hbl.size hb2.size) hg3.size
          intro v4 w4 hown4 hg4
          have hbl4 : Below w.heap.size w w4 := ((bthen hbl hb2).grown hg3 (Nat.le_trans hbl.size hb2.size) (fun k hk => (hown2.lt k hk).1)).grown hg4 (Nat.le_trans (Nat.le_trans hbl.size hb2.size) hg3.size) (fun k hk => (hown3.lt k hk).1)
          have hown5 : ∃ l : List UInt8, l.length ≤ (k + 1) * 8209 ∧ w4.ownsRow w.heap.size 5 1 v4 l.length (bytesV l) := by
            refine ⟨l ++ numB ss[k].size ++ ss[k].data.toList, ?_, ?_⟩
            · simp; omega
            · rw [bytesV_app, bytesV_app, List.length_append, List.length_append]
              simpa using hown4
          clear hown hown2 hown3 hown4 hg3 hg4 hb2
          go_wp2
          go_roundw
          case rel => exact ⟨k + 1, by omega, by go_num, hown5, hbl4⟩
          case measure => simp [intOf]; omega
  · clear hm h3 h4
    go_enter Tryz.func80, Tryz.ntmps80
    go_wp2
    go_ret2
    exact ⟨rfl, Below.refl _ _⟩
end Go.Proofs.YtkgnapojkijbgaaGreatDoor
/- The contracts of the document's own Bind and Same. -/
namespace Go.Proofs.YtkgnapojkijbgaaGreatDoor
open Go.RowKit
open Go.WideShapes (bytes_inj)

theorem data_app (a b : ByteArray) : (a ++ b).data.toList = a.data.toList ++ b.data.toList := by simp [ByteArray.data_append]
theorem size_list (a : ByteArray) : a.size = a.data.toList.length := by simp
theorem ba_of_list {a : ByteArray} {l : List UInt8} (h : a.data.toList = l) : a = ⟨l.toArray⟩ := by
  subst h; rfl

set_option maxHeartbeats 800000 in
set_option maxRecDepth 100000 in
theorem rbind_some (b off c : Nat) (ss : List ByteArray) (w : World) (_hlc : ss.length ≤ c) (_hcm : c ≤ maxLen) (hb : b < w.heap.size)
    (hcell : ∀ i (h : i < ss.length), w.cell? ⟨b, off + i, none⟩ = some (.string ss[i])) (hl : ss.length ≤ 515) (hsz : ∀ s ∈ ss, s.size ≤ 8200) :
    Calls Tryz.prog 14 #[.slice (some ⟨b, off, none⟩) ss.length c] w fun e w' => e = .returned (.string ⟨(bindL ss).toArray⟩) ∧ Below w.heap.size w w' := by
  skip
  have HC := Lib.hid hcell
  have HS := Lib.hid hsz
  clear hcell hsz
  go_enter Tryz.func14, Tryz.ntmps14
  go_wp2_with fail
  go_loopw [3, 8] (fun v i wr => ∃ (k : Nat) (o : ByteArray), k ≤ ss.length ∧ i = .int .i64 k ∧ v = .string o ∧ o.data.toList = bindL (ss.take k) ∧ Below w.heap.size w wr) (fun _ i _ => ss.length - (intOf i).toNat)
  case atStart => exact ⟨0, ⟨#[]⟩, Nat.zero_le _, rfl, rfl, rfl, Below.refl _ _⟩
  case round =>
    obtain ⟨k, o, hk, rfl, rfl, ho, hbl⟩ := hrel
    have hos : o.size ≤ 5000000 := by
      have hlen := bindL_len (ss.take k) (fun s hs => HS.out s (List.mem_of_mem_take hs))
      rw [List.length_take] at hlen
      rw [size_list, ho]; omega
    have HO := Lib.hid ho
    clear ho
    by_cases hkL : k < ss.length
    · have hc := (hbl.cell (p := ⟨b, off + k, none⟩) hb).trans (HC.out k (by omega))
      have hs := HS.out ss[k] (List.getElem_mem _)
      have hnl := numB_len9 (n := ss[k].size) (by omega)
      have htk := Lib.hid (bindL_take ss k hkL)
      have hns : (⟨(numB ss[k].size).toArray⟩ : ByteArray).size ≤ 9 := by rw [size_list]; exact hnl
      obtain ⟨q, hq⟩ : ∃ q : ByteArray, q = ⟨(numB ss[k].size).toArray⟩ := ⟨_, rfl⟩
      have hqd : q.data.toList = numB ss[k].size := by rw [hq]
      have hnum := fun W => rnumber_any ss[k].size W (by omega)
      rw [← hq] at hns hnum
      have HN := Lib.hid hnum
      have HQ := Lib.hid hqd
      have hsum : (o ++ q).size ≤ 5000009 := by rw [ByteArray.size_append]; omega
      clear hnum hq hqd hnl
      go_wp2_with (go_at_call 44; refine (HN.out _).mono ?_; rintro e w2 ⟨rfl, hb2⟩)
      go_roundw
      case rel => exact ⟨k + 1, (o ++ q) ++ ss[k], by omega, by go_num, rfl, by rw [data_app, data_app, HO.out, HQ.out, htk.out], bthen hbl hb2⟩
      case measure => simp [intOf]; omega
    · obtain rfl : k = ss.length := by omega
      go_wp2
      go_ret
      refine ⟨?_, hbl⟩
      have := HO.out
      rw [List.take_of_length_le (Nat.le_refl _)] at this
      rw [← ba_of_list this]
      rfl

theorem rbind_any (a : Option Addr) (c : Nat) (ss : List ByteArray) (w : World) (h : HasStrs w a c ss) (hl : ss.length ≤ 515) (hsz : ∀ s ∈ ss, s.size ≤ 8200) :
    Calls Tryz.prog 14 #[.slice a ss.length c] w fun e w' => e = .returned (.string ⟨(bindL ss).toArray⟩) ∧ Below w.heap.size w w' := by
  obtain ⟨h1, h2, h3, h4⟩ := h
  rcases h4 with rfl | ⟨b, off, rfl, hb, hc⟩
  · go_enter Tryz.func14, Tryz.ntmps14
    go_wp2
    refine wp_loop_rounds 1 ?_
    rw [rounds_succ]
    go_wp2
    go_ret
    exact ⟨rfl, Below.refl _ _⟩
  · exact rbind_some b off c ss w h1 h2 hb hc hl hsz

end Go.Proofs.YtkgnapojkijbgaaGreatDoor
/- What frame.Bind answers to whatever row of texts. -/
namespace Go.Proofs.YtkgnapojkijbgaaGreatDoor
open Go.RowKit

/-- a row of texts, as what an append is handed -/
theorem src_strs {P : Program} {t e : Nat} {w : World} {a : Option Addr} {c : Nat} {ss : List ByteArray} (hk : P.underlying t = some (.slice e)) (h : HasStrs w a c ss) : Src P 1 t (.slice a ss.length c) ss.length (strsV ss) w := by
  obtain ⟨h1, h2, h3, h4⟩ := h
  rcases h4 with rfl | ⟨b, off, rfl, hb, hc⟩
  · cases a with
    | none => exact Src.ofNil w hk c
    | some a => exact Src.ofSlice w hk a 0 c [] (by simp) (fun j u hu => by simp at hu) (fun u hu => by cases hu)
  · refine Src.ofSlice w hk ⟨b, off, none⟩ ss.length c (strsV ss) (by simp [strsV]) (fun j u hu => ?_) (fun u hu => ?_)
    · have hj : j < ss.length := by
        have := (List.getElem?_eq_some_iff.1 hu).1
        simpa [strsV] using this
      have e0 : (⟨b, off, none⟩ : Addr).add j = ⟨b, off + j, none⟩ := by unfold Addr.add; split <;> simp_all
      rw [e0, hc j hj]
      simpa [strsV, hj] using hu
    · obtain ⟨_, _, rfl⟩ := List.mem_map.1 hu
      rfl

/-- what Bind answers -/
def bindS (ss : List ByteArray) : ByteArray := if mayB ss = true then ⟨(bindL ss).toArray⟩ else ⟨#[]⟩
def bindE (ss : List ByteArray) : Int := if mayB ss = true then 0 else 2
theorem bind_any (a : Option Addr) (c : Nat) (ss : List ByteArray) (w : World) (h : HasStrs w a c ss) :
    Calls Tryz.prog 80 #[.slice a ss.length c] w fun e w' => e = .returned (.tuple #[.string (bindS ss), .int .i64 (bindE ss)]) ∧ Below w.heap.size w w' := by
  cases hm : mayB ss with
  | true =>
    have e1 : bindS ss = ⟨(bindL ss).toArray⟩ := by rw [bindS, if_pos hm]
    have e2 : bindE ss = 0 := by rw [bindE, if_pos hm]
    rw [e1, e2]
    exact bind_ok a c ss w h hm
  | false =>
    have hm' : ¬ mayB ss = true := by rw [hm]; simp
    have e1 : bindS ss = ⟨#[]⟩ := by rw [bindS, if_neg hm']
    have e2 : bindE ss = 2 := by rw [bindE, if_neg hm']
    rw [e1, e2]
    exact bind_bad a c ss w h hm
theorem bindS_size (ss : List ByteArray) (hl : ss.length ≤ 515) (hs : ∀ s ∈ ss, s.size ≤ 8200) : (bindS ss).size ≤ 5000000 := by
  unfold bindS
  split
  · have := bindL_len ss hs
    rw [size_list]; show (bindL ss).length ≤ _; omega
  · exact Nat.zero_le _

end Go.Proofs.YtkgnapojkijbgaaGreatDoor
/- The contract of the library's Equal of rows of texts. -/
namespace Go.Proofs.YtkgnapojkijbgaaGreatDoor
open Go.RowKit
open Go.WideShapes (bytes_inj)

set_option maxHeartbeats 800000 in
set_option maxRecDepth 100000 in
theorem equalD_some (b off c b' off' c' : Nat) (ss ts : List ByteArray) (w : World) (hlc : ss.length ≤ c) (hcm : c ≤ maxLen) (hlc' : ts.length ≤ c') (_hcm' : c' ≤ maxLen) (hb : b < w.heap.size) (hb' : b' < w.heap.size)
    (hcell : ∀ i (h : i < ss.length), w.cell? ⟨b, off + i, none⟩ = some (.string ss[i])) (hcell' : ∀ i (h : i < ts.length), w.cell? ⟨b', off' + i, none⟩ = some (.string ts[i])) (hl : ss.length = ts.length) :
    Calls Tryz.prog 76 #[.slice (some ⟨b, off, none⟩) ss.length c, .slice (some ⟨b', off', none⟩) ts.length c'] w (SamePost (decide (ss = ts)) w) := by
  unfold maxLen at hcm
  have HC := Lib.hid hcell
  have HC' := Lib.hid hcell'
  have hlen : ((ss.length : Int) != (ts.length : Int)) = false := by rw [hl]; simp
  have hlb : ts.length ≤ ss.length := by omega
  have hlb' : ss.length ≤ ts.length := by omega
  have HL := Lib.hid hl
  clear hcell hcell' hl
  go_enter Tryz.func76, Tryz.ntmps76
  go_wp2
  go_loopw [13] (fun i wr => ∃ k : Nat, k ≤ ss.length ∧ i = .int .i64 k ∧ ss.take k = ts.take k ∧ Below w.heap.size w wr) (fun i _ => ss.length - (intOf i).toNat)
  case atStart => exact ⟨0, Nat.zero_le _, rfl, rfl, Below.refl _ _⟩
  case round =>
    obtain ⟨k, hk, rfl, he, hbl⟩ := hrel
    have HE := Lib.hid he
    clear he
    by_cases hkl : k < ss.length
    · have hc := (hbl.cell (p := ⟨b, off + k, none⟩) hb).trans (HC.out k hkl)
      have hc' := (hbl.cell (p := ⟨b', off' + k, none⟩) hb').trans (HC'.out k (by omega))
      by_cases hq : ss[k] = ts[k]'(by omega)
      · have hq2 : (ss[k].toList == (ts[k]'(by omega)).toList) = true := by rw [hq]; simp
        have htk : ss.take (k + 1) = ts.take (k + 1) := by
          rw [List.take_succ_eq_append_getElem hkl, List.take_succ_eq_append_getElem (by omega), HE.out, hq]
        have HT := Lib.hid htk
        clear htk hq
        go_wp2_with fail
        go_quiet (fail)
        go_wp2
        go_roundw
        case rel => exact ⟨k + 1, by omega, by go_num, HT.out, below_drewN hbl _⟩
        case measure => simp [intOf]; omega
      · have hq2 : (ss[k].toList == (ts[k]'(by omega)).toList) = false := by
          rw [beq_eq_false_iff_ne, ne_eq, ByteArray.toList_eq, ByteArray.toList_eq]
          intro e
          exact hq (bytes_inj e)
        have hf : decide (ss = ts) = false := by
          rw [decide_eq_false_iff_not]
          intro e
          subst e
          exact hq rfl
        have HF := Lib.hid hf
        clear hq hf
        go_wp2_with fail
        go_quiet (fail)
        go_wp2
        go_ret
        rw [HF.out]
        exact ⟨rfl, below_drewN hbl _⟩
    · have ht : decide (ss = ts) = true := by
        have := HE.out
        rw [List.take_of_length_le (by omega), List.take_of_length_le (by omega)] at this
        rw [decide_eq_true_iff]; exact this
      go_wp2
      go_ret
      rw [ht]
      exact ⟨rfl, hbl⟩

theorem equalD_any (a a' : Option Addr) (c c' : Nat) (ss ts : List ByteArray) (w : World) (h : HasStrs w a c ss) (h' : HasStrs w a' c' ts) :
    Calls Tryz.prog 76 #[.slice a ss.length c, .slice a' ts.length c'] w (SamePost (decide (ss = ts)) w) := by
  obtain ⟨h1, h2, h3, h4⟩ := h
  obtain ⟨g1, g2, g3, g4⟩ := h'
  unfold maxLen at h2 g2
  by_cases hl : ss.length = ts.length
  · rcases h4 with rfl | ⟨b, off, rfl, hb, hc⟩
    · obtain rfl : ts = [] := List.eq_nil_of_length_eq_zero hl.symm
      go_enter Tryz.func76, Tryz.ntmps76
      go_wp2
      refine wp_loop_rounds 1 ?_
      rw [rounds_succ]
      go_wp2
      go_ret
      exact ⟨rfl, Below.refl _ _⟩
    · rcases g4 with rfl | ⟨b', off', rfl, hb', hc'⟩
      · obtain rfl : ss = [] := List.eq_nil_of_length_eq_zero hl
        go_enter Tryz.func76, Tryz.ntmps76
        go_wp2
        refine wp_loop_rounds 1 ?_
        rw [rounds_succ]
        go_wp2
        go_ret
        exact ⟨rfl, Below.refl _ _⟩
      · exact equalD_some b off c b' off' c' ss ts w h1 (by unfold maxLen; omega) g1 (by unfold maxLen; omega) hb hb' hc hc' hl
  · have hlen : ((ss.length : Int) != (ts.length : Int)) = true := by rw [bne_iff_ne]; omega
    have hf : decide (ss = ts) = false := by
      rw [decide_eq_false_iff_not]
      intro e
      exact hl (by rw [e])
    rw [hf]
    clear hl hf h3 h4 g3 g4
    go_enter Tryz.func76, Tryz.ntmps76
    go_wp2
    go_ret
    exact ⟨rfl, Below.refl _ _⟩
end Go.Proofs.YtkgnapojkijbgaaGreatDoor
/- The contract of routes.likeAlone. -/
namespace Go.Proofs.YtkgnapojkijbgaaGreatDoor
open Go.RowKit

/-- two routes are the same, by all but the routes within them -/
def aloneB (a b : Rt) : Prop := a.recv = b.recv ∧ a.ms = b.ms ∧ a.bys = b.bys ∧ a.wait = b.wait ∧ a.every = b.every ∧ a.rep = b.rep ∧ a.mute = b.mute ∧ a.on = b.on
theorem alone_ext (a b : Rt) : a = b ↔ aloneB a b ∧ a.kids = b.kids := by
  obtain ⟨⟩ := a
  obtain ⟨⟩ := b
  simp only [aloneB, Rt.recv, Rt.ms, Rt.bys, Rt.wait, Rt.every, Rt.rep, Rt.mute, Rt.on, Rt.kids, Rt.mk.injEq, and_assoc]
theorem eqB_iff {p : Prop} : eqB p = true ↔ p := by
  constructor
  · intro h
    refine Classical.byContradiction fun e => ?_
    rw [eqB_no e] at h
    cases h
  · exact eqB_yes
theorem eqB_and (p q : Prop) : eqB (p ∧ q) = (eqB p && eqB q) := by
  rw [Bool.eq_iff_iff, eqB_iff, Bool.and_eq_true, eqB_iff, eqB_iff]
theorem eqB_dec (p : Prop) [Decidable p] : eqB p = decide p := by
  rw [Bool.eq_iff_iff, eqB_iff, decide_eq_true_iff]
set_option maxHeartbeats 12800000 in
set_option maxRecDepth 100000 in
theorem likeAlone_any (q p : RtAt) (w : World) (hq : q.own w) (hp : p.own w) : Calls Tryz.prog 140 #[.agg (tCells q), .agg (tCells p)] w (BoolB (eqB (aloneB q.n p.n)) w) := by
  have hb := balR (o := .cells (tCells q) 27) (Below.refl w.heap.size w)
  have hb2 := balR (o := .cells (tCells p) 27) hb
  have hB := (Blk.new w 27 (tCells q)).alloc (.cells (tCells p) 27)
  have hP := nbR w (.cells (tCells q) 27) (tCells p) 27
  have hem := fun W (hW : Below w.heap.size w W) => eqMats_any q.ma p.ma q.mc p.mc q.n.ms p.n.ms W (hq.1.call hW) (hp.1.call hW)
  have heb := fun W (hW : Below w.heap.size w W) => equalD_any q.ba p.ba q.bc p.bc q.n.bys p.n.bys W (hq.2.1.call hW) (hp.2.1.call hW)
  have heu := fun W (hW : Below w.heap.size w W) => equalD_any q.ua p.ua q.uc p.uc q.n.mute p.n.mute W (hq.2.2.1.call hW) (hp.2.2.1.call hW)
  have hR : eqB (aloneB q.n p.n) = (decide (q.n.recv = p.n.recv) && (eqB (q.n.ms = p.n.ms) && (decide (q.n.bys = p.n.bys) && (decide (q.n.wait = p.n.wait) && (decide (q.n.every = p.n.every) && (decide (q.n.rep = p.n.rep) && (decide (q.n.mute = p.n.mute) && decide (q.n.on = p.n.on)))))))) := by
    unfold aloneB
    rw [eqB_and, eqB_and, eqB_and, eqB_and, eqB_and, eqB_and, eqB_and]
    rw [eqB_dec (q.n.recv = p.n.recv), eqB_dec (q.n.bys = p.n.bys), eqB_dec (q.n.wait = p.n.wait), eqB_dec (q.n.every = p.n.every), eqB_dec (q.n.rep = p.n.rep), eqB_dec (q.n.mute = p.n.mute), eqB_dec (q.n.on = p.n.on)]
  rw [hR]
  have f1 := strEq q.n.recv p.n.recv
  have f4 : (q.n.wait == p.n.wait) = decide (q.n.wait = p.n.wait) := by rw [Bool.eq_iff_iff]; simp
  have f5 : (q.n.every == p.n.every) = decide (q.n.every = p.n.every) := by rw [Bool.eq_iff_iff]; simp
  have f6 : (q.n.rep == p.n.rep) = decide (q.n.rep = p.n.rep) := by rw [Bool.eq_iff_iff]; simp
  have f8 : (q.n.on == p.n.on) = decide (q.n.on = p.n.on) := by rw [Bool.eq_iff_iff]; simp
  generalize decide (q.n.recv = p.n.recv) = B1 at *
  generalize eqB (q.n.ms = p.n.ms) = B2 at *
  generalize decide (q.n.bys = p.n.bys) = B3 at *
  generalize decide (q.n.wait = p.n.wait) = B4 at *
  generalize decide (q.n.every = p.n.every) = B5 at *
  generalize decide (q.n.rep = p.n.rep) = B6 at *
  generalize decide (q.n.mute = p.n.mute) = B7 at *
  generalize decide (q.n.on = p.n.on) = B8 at *
  have HEM := Lib.hid hem
  have HEB := Lib.hid heb
  have HEU := Lib.hid heu
  have HB := Lib.hid hb2
  clear hq hp hb hb2 hem heb heu hR
  obtain ⟨n, m1a, m1c, b1a, b1c, u1a, u1c, k1a, k1c⟩ := q
  obtain ⟨m, m2a, m2c, b2a, b2c, u2a, u2c, k2a, k2c⟩ := p
  simp only [tCells] at *
  go_enter Tryz.func140, Tryz.ntmps140
  go_upto_region 1 with fail
  obtain ⟨g, hg⟩ : ∃ g, w.heap.size = g := ⟨_, rfl⟩
  generalize (w.alloc (.cells #[.string n.recv, .slice m1a n.ms.length m1c, .slice b1a n.bys.length b1c, .int .i64 n.wait, .int .i64 n.every, .int .i64 n.rep, .slice u1a n.mute.length u1c, .bool n.on, .slice k1a n.kids.length k1c] 27)).alloc (.cells #[.string m.recv, .slice m2a m.ms.length m2c, .slice b2a m.bys.length b2c, .int .i64 m.wait, .int .i64 m.every, .int .i64 m.rep, .slice u2a m.mute.length u2c, .bool m.on, .slice k2a m.kids.length k2c] 27) = wx at *
  rw [hg] at hB hP ⊢
  clear hg
  have HBQ := Lib.hid (fun W (hW : Below wx.heap.size wx W) => (hB.call hW).cells9)
  have HBP := Lib.hid (fun W (hW : Below wx.heap.size wx W) => (hP.call hW).cells9)
  obtain ⟨c0, c1, c2, c3, c4, c5, c6, c7, c8⟩ := hB.cells9
  obtain ⟨d0, d1, d2, d3, d4, d5, d6, d7, d8⟩ := hP.cells9
  clear hB hP
  cases B1
  case false =>
    go_wp2_with fail
    go_ret
    exact ⟨rfl, HB.out⟩
  cases B2
  case false =>
    go_wp2_with (go_at_call 131; refine (HEM.out _ HB.out).mono ?_; rintro e w2 ⟨rfl, hb2⟩; obtain ⟨x0, x1, x2, x3, x4, x5, x6, x7, x8⟩ := HBQ.out _ hb2; obtain ⟨y0, y1, y2, y3, y4, y5, y6, y7, y8⟩ := HBP.out _ hb2)
    go_ret
    exact ⟨rfl, bthen HB.out hb2⟩
  cases B3
  case false =>
    go_wp2_with (first
      | (go_at_call 131; refine (HEM.out _ HB.out).mono ?_; rintro e w2 ⟨rfl, hb2⟩; obtain ⟨x0, x1, x2, x3, x4, x5, x6, x7, x8⟩ := HBQ.out _ hb2; obtain ⟨y0, y1, y2, y3, y4, y5, y6, y7, y8⟩ := HBP.out _ hb2)
      | (go_at_call 76; (with_reducible refine (HEB.out w2 (bthen HB.out hb2)).mono ?_); rintro e w3 ⟨rfl, hb3⟩; obtain ⟨x0, x1, x2, x3, x4, x5, x6, x7, x8⟩ := HBQ.out _ (bthen hb2 hb3); obtain ⟨y0, y1, y2, y3, y4, y5, y6, y7, y8⟩ := HBP.out _ (bthen hb2 hb3)))
    go_ret
    exact ⟨rfl, bthen HB.out (bthen hb2 hb3)⟩
  cases B4
  case false =>
    go_wp2_with (first
      | (go_at_call 131; refine (HEM.out _ HB.out).mono ?_; rintro e w2 ⟨rfl, hb2⟩; obtain ⟨x0, x1, x2, x3, x4, x5, x6, x7, x8⟩ := HBQ.out _ hb2; obtain ⟨y0, y1, y2, y3, y4, y5, y6, y7, y8⟩ := HBP.out _ hb2)
      | (go_at_call 76; (with_reducible refine (HEB.out w2 (bthen HB.out hb2)).mono ?_); rintro e w3 ⟨rfl, hb3⟩; obtain ⟨x0, x1, x2, x3, x4, x5, x6, x7, x8⟩ := HBQ.out _ (bthen hb2 hb3); obtain ⟨y0, y1, y2, y3, y4, y5, y6, y7, y8⟩ := HBP.out _ (bthen hb2 hb3)))
    go_ret
    exact ⟨rfl, bthen HB.out (bthen hb2 hb3)⟩
  cases B5
  case false =>
    go_wp2_with (first
      | (go_at_call 131; refine (HEM.out _ HB.out).mono ?_; rintro e w2 ⟨rfl, hb2⟩; obtain ⟨x0, x1, x2, x3, x4, x5, x6, x7, x8⟩ := HBQ.out _ hb2; obtain ⟨y0, y1, y2, y3, y4, y5, y6, y7, y8⟩ := HBP.out _ hb2)
      | (go_at_call 76; (with_reducible refine (HEB.out w2 (bthen HB.out hb2)).mono ?_); rintro e w3 ⟨rfl, hb3⟩; obtain ⟨x0, x1, x2, x3, x4, x5, x6, x7, x8⟩ := HBQ.out _ (bthen hb2 hb3); obtain ⟨y0, y1, y2, y3, y4, y5, y6, y7, y8⟩ := HBP.out _ (bthen hb2 hb3)))
    go_ret
    exact ⟨rfl, bthen HB.out (bthen hb2 hb3)⟩
  cases B6
  case false =>
    go_wp2_with (first
      | (go_at_call 131; refine (HEM.out _ HB.out).mono ?_; rintro e w2 ⟨rfl, hb2⟩; obtain ⟨x0, x1, x2, x3, x4, x5, x6, x7, x8⟩ := HBQ.out _ hb2; obtain ⟨y0, y1, y2, y3, y4, y5, y6, y7, y8⟩ := HBP.out _ hb2)
      | (go_at_call 76; (with_reducible refine (HEB.out w2 (bthen HB.out hb2)).mono ?_); rintro e w3 ⟨rfl, hb3⟩; obtain ⟨x0, x1, x2, x3, x4, x5, x6, x7, x8⟩ := HBQ.out _ (bthen hb2 hb3); obtain ⟨y0, y1, y2, y3, y4, y5, y6, y7, y8⟩ := HBP.out _ (bthen hb2 hb3)))
    go_ret
    exact ⟨rfl, bthen HB.out (bthen hb2 hb3)⟩
  cases B7
  case false =>
    go_wp2_with (first
      | (go_at_call 131; refine (HEM.out _ HB.out).mono ?_; rintro e w2 ⟨rfl, hb2⟩; obtain ⟨x0, x1, x2, x3, x4, x5, x6, x7, x8⟩ := HBQ.out _ hb2; obtain ⟨y0, y1, y2, y3, y4, y5, y6, y7, y8⟩ := HBP.out _ hb2)
      | (go_at_call 76; (with_reducible refine (HEB.out w2 (bthen HB.out hb2)).mono ?_); rintro e w3 ⟨rfl, hb3⟩; obtain ⟨x0, x1, x2, x3, x4, x5, x6, x7, x8⟩ := HBQ.out _ (bthen hb2 hb3); obtain ⟨y0, y1, y2, y3, y4, y5, y6, y7, y8⟩ := HBP.out _ (bthen hb2 hb3))
      | (go_at_call 76; (with_reducible refine (HEU.out w3 (bthen HB.out (bthen hb2 hb3))).mono ?_); rintro e w4 ⟨rfl, hb4⟩; obtain ⟨x0, x1, x2, x3, x4, x5, x6, x7, x8⟩ := HBQ.out _ (bthen hb2 (bthen hb3 hb4)); obtain ⟨y0, y1, y2, y3, y4, y5, y6, y7, y8⟩ := HBP.out _ (bthen hb2 (bthen hb3 hb4))))
    go_ret
    exact ⟨rfl, bthen HB.out (bthen hb2 (bthen hb3 hb4))⟩
  cases B8
  all_goals
    go_wp2_with (first
      | (go_at_call 131; refine (HEM.out _ HB.out).mono ?_; rintro e w2 ⟨rfl, hb2⟩; obtain ⟨x0, x1, x2, x3, x4, x5, x6, x7, x8⟩ := HBQ.out _ hb2; obtain ⟨y0, y1, y2, y3, y4, y5, y6, y7, y8⟩ := HBP.out _ hb2)
      | (go_at_call 76; (with_reducible refine (HEB.out w2 (bthen HB.out hb2)).mono ?_); rintro e w3 ⟨rfl, hb3⟩; obtain ⟨x0, x1, x2, x3, x4, x5, x6, x7, x8⟩ := HBQ.out _ (bthen hb2 hb3); obtain ⟨y0, y1, y2, y3, y4, y5, y6, y7, y8⟩ := HBP.out _ (bthen hb2 hb3))
      | (go_at_call 76; (with_reducible refine (HEU.out w3 (bthen HB.out (bthen hb2 hb3))).mono ?_); rintro e w4 ⟨rfl, hb4⟩; obtain ⟨x0, x1, x2, x3, x4, x5, x6, x7, x8⟩ := HBQ.out _ (bthen hb2 (bthen hb3 hb4)); obtain ⟨y0, y1, y2, y3, y4, y5, y6, y7, y8⟩ := HBP.out _ (bthen hb2 (bthen hb3 hb4))))
    go_ret
    exact ⟨rfl, bthen HB.out (bthen hb2 (bthen hb3 hb4))⟩
end Go.Proofs.YtkgnapojkijbgaaGreatDoor
