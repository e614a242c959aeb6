/- The contract of config.Right. -/
import Derived.Test.YtmhekhilgllciaaGreatMg6
import Derived.Test.YtmhekhilgllciaaGreatMg9
namespace Go.Proofs.YtmhekhilgllciaaGreat
open Go.RowKit

/-- may a configuration be? -/
def cfgC (k : CfA) : Bool := (decide (k.ru.length ≤ 16) && k.ru.all RuA.good) && (onceS (k.ru.map RuA.name) && ((decide (k.re.length ≤ 16) && k.re.all (fun s => bwC s.data.toList)) && (onceS k.re && ((decide (k.ih.length ≤ 8) && k.ih.all InA.good) && ((decide (k.hr.length ≤ 8) && k.hr.all HrA.good) && (onceS (k.hr.map HrA.n) && routeC k))))))
set_option maxHeartbeats 12800000 in
set_option maxRecDepth 100000 in
theorem cfgRight_any (k : CfA) (w : World) (h : k.ok w) : Calls Tryz.prog 9 #[.agg (kCells k)] w (BoolB (cfgC k) w) := by
  have hb := (Below.refl w.heap.size w).alloc (Nat.le_refl _) (.cells (kCells k) 31)
  have hA := Blk.new w 31 (kCells k)
  have H1 := Lib.hid (fun W (hW : Below w.heap.size w W) => allR_any k.ua k.uc k.ru 16 W (h.1.keep hW))
  have H2 := Lib.hid (fun (h8 : k.ru.length ≤ 1000000) W (hW : Below w.heap.size w W) => eachR_any k.ua k.uc k.ru W (h.1.keep hW) h8)
  have H3 := Lib.hid (fun W (hW : Below w.heap.size w W) => allS_any k.ra k.rc k.re 16 W (h.2.2.1.call hW))
  have H4 := Lib.hid (fun (h8 : k.re.length ≤ 1000000) W (hW : Below w.heap.size w W) => once_any k.ra k.rc k.re W (h.2.2.1.call hW) h8)
  have H5 := Lib.hid (fun W (hW : Below w.heap.size w W) => allI_any k.ia k.ic k.ih 8 W (h.2.2.2.1.keep hW))
  have H6 := Lib.hid (fun W (hW : Below w.heap.size w W) => allH_any k.ha k.hc k.hr 8 W (h.2.2.2.2.keep hW))
  have H7 := Lib.hid (fun (h8 : k.hr.length ≤ 1000000) W (hW : Below w.heap.size w W) => eachH_any k.ha k.hc k.hr W (h.2.2.2.2.keep hW) h8)
  have H8 := Lib.hid (fun (h8 : k.hr.length ≤ 1000000) W (hW : Below w.heap.size w W) => cfgRoute_any k W (h.call hW) h8)
  obtain ⟨RN, hRN⟩ : ∃ N, k.ru.map RuA.name = N := ⟨_, rfl⟩
  obtain ⟨HN, hHN⟩ : ∃ N, k.hr.map HrA.n = N := ⟨_, rfl⟩
  have hs1 : ∀ s ∈ RN, s.size ≤ maxLen := fun s hs => by
    rw [← hRN] at hs
    obtain ⟨x, hx, rfl⟩ := List.mem_map.1 hs
    exact (h.1.2.2.1 x hx).2.1
  have hs2 : ∀ s ∈ HN, s.size ≤ maxLen := fun s hs => by
    rw [← hHN] at hs
    obtain ⟨x, hx, rfl⟩ := List.mem_map.1 hs
    exact (h.2.2.2.2.2.2.1 x hx).1
  have HS1 := Lib.hid hs1
  have HS2 := Lib.hid hs2
  have hl1 : RN.length = k.ru.length := by rw [← hRN, List.length_map]
  have hl2 : HN.length = k.hr.length := by rw [← hHN, List.length_map]
  have HO1 := Lib.hid (fun (h8 : k.ru.length ≤ 1000000) W a c (hx : HasStrs W a c RN) => once_any a c RN W hx (by rw [hl1]; exact h8))
  have HO2 := Lib.hid (fun (h8 : k.hr.length ≤ 1000000) W a c (hx : HasStrs W a c HN) => once_any a c HN W hx (by rw [hl2]; exact h8))
  have hR : cfgC k = ((decide (k.ru.length ≤ 16) && k.ru.all RuA.good) && (onceS RN && ((decide (k.re.length ≤ 16) && k.re.all (fun s => bwC s.data.toList)) && (onceS k.re && ((decide (k.ih.length ≤ 8) && k.ih.all InA.good) && ((decide (k.hr.length ≤ 8) && k.hr.all HrA.good) && (onceS HN && routeC k))))))) := by rw [← hRN, ← hHN]; rfl
  rw [hR]
  have L1 := Lib.hid (show (decide (k.ru.length ≤ 16) && k.ru.all RuA.good) = true → k.ru.length ≤ 1000000 from fun e => by
    simp only [Bool.and_eq_true, decide_eq_true_eq] at e
    omega)
  have L3 := Lib.hid (show (decide (k.re.length ≤ 16) && k.re.all (fun s => bwC s.data.toList)) = true → k.re.length ≤ 1000000 from fun e => by
    simp only [Bool.and_eq_true, decide_eq_true_eq] at e
    omega)
  have L6 := Lib.hid (show (decide (k.hr.length ≤ 8) && k.hr.all HrA.good) = true → k.hr.length ≤ 1000000 from fun e => by
    simp only [Bool.and_eq_true, decide_eq_true_eq] at e
    omega)
  rw [show (((16 : Nat) : Int)) = 16 from rfl] at H1 H3
  rw [show (((8 : Nat) : Int)) = 8 from rfl] at H5 H6
  simp only [hRN] at H2
  simp only [hHN] at H7
  generalize (decide (k.ru.length ≤ 16) && k.ru.all RuA.good) = B1 at *
  generalize onceS RN = B2 at *
  generalize (decide (k.re.length ≤ 16) && k.re.all (fun s => bwC s.data.toList)) = B3 at *
  generalize onceS k.re = B4 at *
  generalize (decide (k.ih.length ≤ 8) && k.ih.all InA.good) = B5 at *
  generalize (decide (k.hr.length ≤ 8) && k.hr.all HrA.good) = B6 at *
  generalize onceS HN = B7 at *
  generalize routeC k = B8 at *
  have HB := Lib.hid hb
  clear hb h hR hs1 hs2 hRN hHN hl1 hl2
  obtain ⟨ru, ua, uc, ⟨n, ma, mc, ba, bc, ma', mc', ka, kc⟩, re, ra, rc, ih, ia, ic, hr, ha, hc⟩ := k
  simp only [kCells] at *
  go_enter Tryz.func9, Tryz.ntmps9
  go_upto_region 1 with fail
  obtain ⟨g, hg⟩ : ∃ g, w.heap.size = g := ⟨_, rfl⟩
  generalize w.alloc (.cells #[.slice ua ru.length uc, .string n.recv, .slice ma n.ms.length mc, .slice ba n.bys.length bc, .int .i64 n.wait, .int .i64 n.every, .int .i64 n.rep, .slice ma' n.mute.length mc', .bool n.on, .slice ka n.kids.length kc, .slice ra re.length rc, .slice ia ih.length ic, .slice ha hr.length hc] 31) = wx at *
  rw [hg] at hA ⊢
  clear hg
  have HAC := Lib.hid (fun W (hW : Below wx.heap.size wx W) => (hA.call hW).cells13)
  have c0 := hA.cells13.1
  clear hA
  cases B1
  case false =>
    go_wp2_with (first
      | (go_at_call 32; (with_reducible refine (H1.out _ HB.out).mono ?_); rintro e w2 ⟨rfl, hb2⟩; have q2 := hb2; have k2 := (HAC.out _ q2).1))
    go_ret
    exact ⟨by first | rfl | simp, bthen HB.out q2⟩
  have l1 := Lib.hid (L1.out rfl)
  clear L1
  cases B2
  case false =>
    go_wp2_with (first
      | (go_at_call 32; (with_reducible refine (H1.out _ HB.out).mono ?_); rintro e w2 ⟨rfl, hb2⟩; have q2 := hb2; have k2 := (HAC.out _ q2).1)
      | (go_at_call 35; (with_reducible refine (H2.out l1.out _ (bthen HB.out q2)).mono ?_); rintro e w3 ⟨v3, rfl, ho3, hb3⟩; obtain ⟨na, nc, rfl, hn3⟩ := ho3.strs HS1.out; have q3 := bthen q2 hb3)
      | (go_at_call 34; (with_reducible refine (HO1.out l1.out _ na nc hn3).mono ?_); rintro e w4 ⟨rfl, hb4⟩; have q4 := bthen q3 hb4; have k4 := (HAC.out _ q4).2.2.2.2.2.2.2.2.2.2.1))
    go_ret
    exact ⟨by first | rfl | simp, bthen HB.out q4⟩
  cases B3
  case false =>
    go_wp2_with (first
      | (go_at_call 32; (with_reducible refine (H1.out _ HB.out).mono ?_); rintro e w2 ⟨rfl, hb2⟩; have q2 := hb2; have k2 := (HAC.out _ q2).1)
      | (go_at_call 35; (with_reducible refine (H2.out l1.out _ (bthen HB.out q2)).mono ?_); rintro e w3 ⟨v3, rfl, ho3, hb3⟩; obtain ⟨na, nc, rfl, hn3⟩ := ho3.strs HS1.out; have q3 := bthen q2 hb3)
      | (go_at_call 34; (with_reducible refine (HO1.out l1.out _ na nc hn3).mono ?_); rintro e w4 ⟨rfl, hb4⟩; have q4 := bthen q3 hb4; have k4 := (HAC.out _ q4).2.2.2.2.2.2.2.2.2.2.1)
      | (go_at_call 36; (with_reducible refine (H3.out _ (bthen HB.out q4)).mono ?_); rintro e w5 ⟨rfl, hb5⟩; have q5 := bthen q4 hb5; have k5 := (HAC.out _ q5).2.2.2.2.2.2.2.2.2.2.1))
    go_ret
    exact ⟨by first | rfl | simp, bthen HB.out q5⟩
  have l3 := Lib.hid (L3.out rfl)
  clear L3
  cases B4
  case false =>
    go_wp2_with (first
      | (go_at_call 32; (with_reducible refine (H1.out _ HB.out).mono ?_); rintro e w2 ⟨rfl, hb2⟩; have q2 := hb2; have k2 := (HAC.out _ q2).1)
      | (go_at_call 35; (with_reducible refine (H2.out l1.out _ (bthen HB.out q2)).mono ?_); rintro e w3 ⟨v3, rfl, ho3, hb3⟩; obtain ⟨na, nc, rfl, hn3⟩ := ho3.strs HS1.out; have q3 := bthen q2 hb3)
      | (go_at_call 34; (with_reducible refine (HO1.out l1.out _ na nc hn3).mono ?_); rintro e w4 ⟨rfl, hb4⟩; have q4 := bthen q3 hb4; have k4 := (HAC.out _ q4).2.2.2.2.2.2.2.2.2.2.1)
      | (go_at_call 36; (with_reducible refine (H3.out _ (bthen HB.out q4)).mono ?_); rintro e w5 ⟨rfl, hb5⟩; have q5 := bthen q4 hb5; have k5 := (HAC.out _ q5).2.2.2.2.2.2.2.2.2.2.1)
      | (go_at_call 34; (with_reducible refine (H4.out l3.out _ (bthen HB.out q5)).mono ?_); rintro e w6 ⟨rfl, hb6⟩; have q6 := bthen q5 hb6; have k6 := (HAC.out _ q6).2.2.2.2.2.2.2.2.2.2.2.1))
    go_ret
    exact ⟨by first | rfl | simp, bthen HB.out q6⟩
  cases B5
  case false =>
    go_wp2_with (first
      | (go_at_call 32; (with_reducible refine (H1.out _ HB.out).mono ?_); rintro e w2 ⟨rfl, hb2⟩; have q2 := hb2; have k2 := (HAC.out _ q2).1)
      | (go_at_call 35; (with_reducible refine (H2.out l1.out _ (bthen HB.out q2)).mono ?_); rintro e w3 ⟨v3, rfl, ho3, hb3⟩; obtain ⟨na, nc, rfl, hn3⟩ := ho3.strs HS1.out; have q3 := bthen q2 hb3)
      | (go_at_call 34; (with_reducible refine (HO1.out l1.out _ na nc hn3).mono ?_); rintro e w4 ⟨rfl, hb4⟩; have q4 := bthen q3 hb4; have k4 := (HAC.out _ q4).2.2.2.2.2.2.2.2.2.2.1)
      | (go_at_call 36; (with_reducible refine (H3.out _ (bthen HB.out q4)).mono ?_); rintro e w5 ⟨rfl, hb5⟩; have q5 := bthen q4 hb5; have k5 := (HAC.out _ q5).2.2.2.2.2.2.2.2.2.2.1)
      | (go_at_call 34; (with_reducible refine (H4.out l3.out _ (bthen HB.out q5)).mono ?_); rintro e w6 ⟨rfl, hb6⟩; have q6 := bthen q5 hb6; have k6 := (HAC.out _ q6).2.2.2.2.2.2.2.2.2.2.2.1)
      | (go_at_call 38; (with_reducible refine (H5.out _ (bthen HB.out q6)).mono ?_); rintro e w7 ⟨rfl, hb7⟩; have q7 := bthen q6 hb7; have k7 := (HAC.out _ q7).2.2.2.2.2.2.2.2.2.2.2.2))
    go_ret
    exact ⟨by first | rfl | simp, bthen HB.out q7⟩
  cases B6
  case false =>
    go_wp2_with (first
      | (go_at_call 32; (with_reducible refine (H1.out _ HB.out).mono ?_); rintro e w2 ⟨rfl, hb2⟩; have q2 := hb2; have k2 := (HAC.out _ q2).1)
      | (go_at_call 35; (with_reducible refine (H2.out l1.out _ (bthen HB.out q2)).mono ?_); rintro e w3 ⟨v3, rfl, ho3, hb3⟩; obtain ⟨na, nc, rfl, hn3⟩ := ho3.strs HS1.out; have q3 := bthen q2 hb3)
      | (go_at_call 34; (with_reducible refine (HO1.out l1.out _ na nc hn3).mono ?_); rintro e w4 ⟨rfl, hb4⟩; have q4 := bthen q3 hb4; have k4 := (HAC.out _ q4).2.2.2.2.2.2.2.2.2.2.1)
      | (go_at_call 36; (with_reducible refine (H3.out _ (bthen HB.out q4)).mono ?_); rintro e w5 ⟨rfl, hb5⟩; have q5 := bthen q4 hb5; have k5 := (HAC.out _ q5).2.2.2.2.2.2.2.2.2.2.1)
      | (go_at_call 34; (with_reducible refine (H4.out l3.out _ (bthen HB.out q5)).mono ?_); rintro e w6 ⟨rfl, hb6⟩; have q6 := bthen q5 hb6; have k6 := (HAC.out _ q6).2.2.2.2.2.2.2.2.2.2.2.1)
      | (go_at_call 38; (with_reducible refine (H5.out _ (bthen HB.out q6)).mono ?_); rintro e w7 ⟨rfl, hb7⟩; have q7 := bthen q6 hb7; have k7 := (HAC.out _ q7).2.2.2.2.2.2.2.2.2.2.2.2)
      | (go_at_call 40; (with_reducible refine (H6.out _ (bthen HB.out q7)).mono ?_); rintro e w8 ⟨rfl, hb8⟩; have q8 := bthen q7 hb8; have k8 := (HAC.out _ q8).2.2.2.2.2.2.2.2.2.2.2.2))
    go_ret
    exact ⟨by first | rfl | simp, bthen HB.out q8⟩
  have l6 := Lib.hid (L6.out rfl)
  clear L6
  cases B7
  case false =>
    go_wp2_with (first
      | (go_at_call 32; (with_reducible refine (H1.out _ HB.out).mono ?_); rintro e w2 ⟨rfl, hb2⟩; have q2 := hb2; have k2 := (HAC.out _ q2).1)
      | (go_at_call 35; (with_reducible refine (H2.out l1.out _ (bthen HB.out q2)).mono ?_); rintro e w3 ⟨v3, rfl, ho3, hb3⟩; obtain ⟨na, nc, rfl, hn3⟩ := ho3.strs HS1.out; have q3 := bthen q2 hb3)
      | (go_at_call 34; (with_reducible refine (HO1.out l1.out _ na nc hn3).mono ?_); rintro e w4 ⟨rfl, hb4⟩; have q4 := bthen q3 hb4; have k4 := (HAC.out _ q4).2.2.2.2.2.2.2.2.2.2.1)
      | (go_at_call 36; (with_reducible refine (H3.out _ (bthen HB.out q4)).mono ?_); rintro e w5 ⟨rfl, hb5⟩; have q5 := bthen q4 hb5; have k5 := (HAC.out _ q5).2.2.2.2.2.2.2.2.2.2.1)
      | (go_at_call 34; (with_reducible refine (H4.out l3.out _ (bthen HB.out q5)).mono ?_); rintro e w6 ⟨rfl, hb6⟩; have q6 := bthen q5 hb6; have k6 := (HAC.out _ q6).2.2.2.2.2.2.2.2.2.2.2.1)
      | (go_at_call 38; (with_reducible refine (H5.out _ (bthen HB.out q6)).mono ?_); rintro e w7 ⟨rfl, hb7⟩; have q7 := bthen q6 hb7; have k7 := (HAC.out _ q7).2.2.2.2.2.2.2.2.2.2.2.2)
      | (go_at_call 40; (with_reducible refine (H6.out _ (bthen HB.out q7)).mono ?_); rintro e w8 ⟨rfl, hb8⟩; have q8 := bthen q7 hb8; have k8 := (HAC.out _ q8).2.2.2.2.2.2.2.2.2.2.2.2)
      | (go_at_call 42; (with_reducible refine (H7.out l6.out _ (bthen HB.out q8)).mono ?_); rintro e w9 ⟨v9, rfl, ho9, hb9⟩; obtain ⟨ma9, mc9, rfl, hn9⟩ := ho9.strs HS2.out; have q9 := bthen q8 hb9)
      | (go_at_call 34; (with_reducible refine (HO2.out l6.out _ ma9 mc9 hn9).mono ?_); rintro e w10 ⟨rfl, hb10⟩; have q10 := bthen q9 hb10; obtain ⟨p10_0, p10_1, p10_2, p10_3, p10_4, p10_5, p10_6, p10_7, p10_8, p10_9, p10_10, p10_11, p10_12⟩ := HAC.out _ q10))
    go_ret
    exact ⟨by first | rfl | simp, bthen HB.out q10⟩
  go_wp2_with (first
    | (go_at_call 32; (with_reducible refine (H1.out _ HB.out).mono ?_); rintro e w2 ⟨rfl, hb2⟩; have q2 := hb2; have k2 := (HAC.out _ q2).1)
    | (go_at_call 35; (with_reducible refine (H2.out l1.out _ (bthen HB.out q2)).mono ?_); rintro e w3 ⟨v3, rfl, ho3, hb3⟩; obtain ⟨na, nc, rfl, hn3⟩ := ho3.strs HS1.out; have q3 := bthen q2 hb3)
    | (go_at_call 34; (with_reducible refine (HO1.out l1.out _ na nc hn3).mono ?_); rintro e w4 ⟨rfl, hb4⟩; have q4 := bthen q3 hb4; have k4 := (HAC.out _ q4).2.2.2.2.2.2.2.2.2.2.1)
    | (go_at_call 36; (with_reducible refine (H3.out _ (bthen HB.out q4)).mono ?_); rintro e w5 ⟨rfl, hb5⟩; have q5 := bthen q4 hb5; have k5 := (HAC.out _ q5).2.2.2.2.2.2.2.2.2.2.1)
    | (go_at_call 34; (with_reducible refine (H4.out l3.out _ (bthen HB.out q5)).mono ?_); rintro e w6 ⟨rfl, hb6⟩; have q6 := bthen q5 hb6; have k6 := (HAC.out _ q6).2.2.2.2.2.2.2.2.2.2.2.1)
    | (go_at_call 38; (with_reducible refine (H5.out _ (bthen HB.out q6)).mono ?_); rintro e w7 ⟨rfl, hb7⟩; have q7 := bthen q6 hb7; have k7 := (HAC.out _ q7).2.2.2.2.2.2.2.2.2.2.2.2)
    | (go_at_call 40; (with_reducible refine (H6.out _ (bthen HB.out q7)).mono ?_); rintro e w8 ⟨rfl, hb8⟩; have q8 := bthen q7 hb8; have k8 := (HAC.out _ q8).2.2.2.2.2.2.2.2.2.2.2.2)
    | (go_at_call 42; (with_reducible refine (H7.out l6.out _ (bthen HB.out q8)).mono ?_); rintro e w9 ⟨v9, rfl, ho9, hb9⟩; obtain ⟨ma9, mc9, rfl, hn9⟩ := ho9.strs HS2.out; have q9 := bthen q8 hb9)
    | (go_at_call 34; (with_reducible refine (HO2.out l6.out _ ma9 mc9 hn9).mono ?_); rintro e w10 ⟨rfl, hb10⟩; have q10 := bthen q9 hb10; obtain ⟨p10_0, p10_1, p10_2, p10_3, p10_4, p10_5, p10_6, p10_7, p10_8, p10_9, p10_10, p10_11, p10_12⟩ := HAC.out _ q10)
    | (go_at_call 43; (with_reducible refine (H8.out l6.out _ (bthen HB.out q10)).mono ?_); rintro e w11 ⟨rfl, hb11⟩; have q11 := bthen q10 hb11))
  go_ret
  exact ⟨by first | rfl | simp, bthen HB.out q11⟩
end Go.Proofs.YtmhekhilgllciaaGreat
/- The contract of config.Normal. -/
namespace Go.Proofs.YtmhekhilgllciaaGreat
open Go.RowKit Go.Lib Go.Sort

theorem results_cell_tmpC {P : Program} {fn : Func} {p u : Tmp} {ty : TypeId} (h : fn.results = #[.cell p ty, .tmp u]) (tmps : Array Value) (w : World) (g : Nat) (t : TypeId) (cs : Array Value) (fr : Nat × Nat) (d : TypeDesc)
    (hp : tmps.getD p undef = .pointer (some ⟨g, 0, none⟩)) (hg : w.heap[g]? = some (.cells cs t fr))
    (hu : P.underlying ty = some d) (hd : (match d with | .struct _ | .array _ _ => true | _ => false) = true) (hi : (P.info? ty).map (·.size) = some cs.size) :
    (results fn tmps).run P w = .ok (.tuple #[.agg cs, tmps.getD u undef]) w := by
  have hp' : tmps[p]?.getD undef = .pointer (some ⟨g, 0, none⟩) := by simpa using hp
  simp [results, h, hp', asAddr, run_loadVar_row w g t ty cs fr d hg hu hd hi]
theorem OwnX.same {A : Type} {enc : A → List Value} {k : Nat} {T : TypeId} {w w1 : World} {base : Nat} {v : Value} {xs : List A} (h : OwnX T k enc w base v xs) (hq : ∀ q, base ≤ q → w1.heap[q]? = w.heap[q]?) : OwnX T k enc w1 base v xs := by
  obtain ⟨ha, hr⟩ := h
  refine ⟨ha, hr.imp id ?_⟩
  rintro ⟨g, cap, cur, e1, e2, e3, e4⟩
  exact ⟨g, cap, cur, e1, e2, (hq g e2).trans e3, e4⟩
theorem OwnS.same {T : TypeId} {w w1 : World} {base : Nat} {v : Value} {ss : List ByteArray} (h : OwnS T w base v ss) (hq : ∀ q, base ≤ q → w1.heap[q]? = w.heap[q]?) : OwnS T w1 base v ss := by
  obtain ⟨ha, hr⟩ := h
  refine ⟨ha, hr.imp id ?_⟩
  rintro ⟨g, cap, cur, e1, e2, e3, e4⟩
  exact ⟨g, cap, cur, e1, e2, (hq g e2).trans e3, e4⟩
theorem OwnX.sameL {A : Type} {enc : A → List Value} {k : Nat} {T : TypeId} {w w1 : World} {base : Nat} {v : Value} {xs : List A} (h : OwnX T k enc w base v xs) (hq : ∀ q, base ≤ q → q < w.heap.size → w1.heap[q]? = w.heap[q]?) : OwnX T k enc w1 base v xs := by
  obtain ⟨ha, hr⟩ := h
  refine ⟨ha, hr.imp id ?_⟩
  rintro ⟨g, cap, cur, e1, e2, e3, e4⟩
  exact ⟨g, cap, cur, e1, e2, (hq g e2 (lt_of_block e3)).trans e3, e4⟩
theorem OwnS.sameL {T : TypeId} {w w1 : World} {base : Nat} {v : Value} {ss : List ByteArray} (h : OwnS T w base v ss) (hq : ∀ q, base ≤ q → q < w.heap.size → w1.heap[q]? = w.heap[q]?) : OwnS T w1 base v ss := by
  obtain ⟨ha, hr⟩ := h
  refine ⟨ha, hr.imp id ?_⟩
  rintro ⟨g, cap, cur, e1, e2, e3, e4⟩
  exact ⟨g, cap, cur, e1, e2, (hq g e2 (lt_of_block e3)).trans e3, e4⟩
/-- W keeps what lay ahead of B0, and what a call from w to w1 has made -/
def Keep (B0 : Nat) (w w1 W : World) : Prop := Below B0 w W ∧ w1.heap.size ≤ W.heap.size ∧ ∀ q, w.heap.size ≤ q → q < w1.heap.size → W.heap[q]? = w1.heap[q]?
theorem Keep.refl {B0 : Nat} {w w1 : World} (hB : B0 ≤ w.heap.size) (h : Below w.heap.size w w1) : Keep B0 w w1 w1 := ⟨h.mono hB, Nat.le_refl _, fun _ _ _ => rfl⟩
theorem OwnX.shape {A : Type} {enc : A → List Value} {k : Nat} {T : TypeId} {w : World} {base : Nat} {v : Value} {xs : List A} (h : OwnX T k enc w base v xs) : ∃ a c, v = .slice a xs.length c := by
  rcases h.2 with ⟨rfl, h0⟩ | ⟨g, cap, cur, rfl, _⟩
  · exact ⟨none, 0, by rw [h0]⟩
  · exact ⟨_, _, rfl⟩
theorem OwnS.shape {T : TypeId} {w : World} {base : Nat} {v : Value} {ss : List ByteArray} (h : OwnS T w base v ss) : ∃ a c, v = .slice a ss.length c := by
  rcases h.2 with ⟨rfl, h0⟩ | ⟨g, cap, cur, rfl, _⟩
  · exact ⟨none, 0, by rw [h0]⟩
  · exact ⟨_, _, rfl⟩
theorem heap_set1 (w : World) (g i : Nat) (u : Value) (b : Nat) (hg : g < b) : ∀ q, b ≤ q → (w.setCell ⟨g, i, none⟩ u).heap[q]? = w.heap[q]? := fun q hq => Below.heap_setCell w ⟨g, i, none⟩ u q (by show q ≠ g; omega)
/-- a configuration stored whole -/
theorem st13 {w : World} {g : Nat} {t : TypeId} {x0 x1 x2 x3 x4 x5 x6 x7 x8 x9 x10 x11 x12 : Value} (h : Blk w g t #[x0, x1, x2, x3, x4, x5, x6, x7, x8, x9, x10, x11, x12]) (v0 v1 v2 v3 v4 v5 v6 v7 v8 v9 v10 v11 v12 : Value) (W : World) (hW : W = ((((((((((((w.setCell ⟨g, 0, none⟩ v0).setCell ⟨g, 1, none⟩ v1).setCell ⟨g, 2, none⟩ v2).setCell ⟨g, 3, none⟩ v3).setCell ⟨g, 4, none⟩ v4).setCell ⟨g, 5, none⟩ v5).setCell ⟨g, 6, none⟩ v6).setCell ⟨g, 7, none⟩ v7).setCell ⟨g, 8, none⟩ v8).setCell ⟨g, 9, none⟩ v9).setCell ⟨g, 10, none⟩ v10).setCell ⟨g, 11, none⟩ v11).setCell ⟨g, 12, none⟩ v12) :
    Blk W g t #[v0, v1, v2, v3, v4, v5, v6, v7, v8, v9, v10, v11, v12] ∧ (∀ q, q ≠ g → W.heap[q]? = w.heap[q]?) ∧ (∀ B, B ≤ g → ∀ w0, Below B w0 w → Below B w0 W) := by
  subst hW
  have h : Blk _ g t #[v0, x1, x2, x3, x4, x5, x6, x7, x8, x9, x10, x11, x12] := h.set 0 v0
  have h : Blk _ g t #[v0, v1, x2, x3, x4, x5, x6, x7, x8, x9, x10, x11, x12] := h.set 1 v1
  have h : Blk _ g t #[v0, v1, v2, x3, x4, x5, x6, x7, x8, x9, x10, x11, x12] := h.set 2 v2
  have h : Blk _ g t #[v0, v1, v2, v3, x4, x5, x6, x7, x8, x9, x10, x11, x12] := h.set 3 v3
  have h : Blk _ g t #[v0, v1, v2, v3, v4, x5, x6, x7, x8, x9, x10, x11, x12] := h.set 4 v4
  have h : Blk _ g t #[v0, v1, v2, v3, v4, v5, x6, x7, x8, x9, x10, x11, x12] := h.set 5 v5
  have h : Blk _ g t #[v0, v1, v2, v3, v4, v5, v6, x7, x8, x9, x10, x11, x12] := h.set 6 v6
  have h : Blk _ g t #[v0, v1, v2, v3, v4, v5, v6, v7, x8, x9, x10, x11, x12] := h.set 7 v7
  have h : Blk _ g t #[v0, v1, v2, v3, v4, v5, v6, v7, v8, x9, x10, x11, x12] := h.set 8 v8
  have h : Blk _ g t #[v0, v1, v2, v3, v4, v5, v6, v7, v8, v9, x10, x11, x12] := h.set 9 v9
  have h : Blk _ g t #[v0, v1, v2, v3, v4, v5, v6, v7, v8, v9, v10, x11, x12] := h.set 10 v10
  have h : Blk _ g t #[v0, v1, v2, v3, v4, v5, v6, v7, v8, v9, v10, v11, x12] := h.set 11 v11
  have h : Blk _ g t #[v0, v1, v2, v3, v4, v5, v6, v7, v8, v9, v10, v11, v12] := h.set 12 v12
  refine ⟨h, fun q hq => ?_, fun B hB w0 hb => ?_⟩
  · iterate 13 (rw [Below.heap_setCell _ _ _ _ (by show q ≠ g; exact hq)])
  · iterate 13 (refine Below.setCell ?_ (by show B ≤ g; exact hB) _)
    exact hb
set_option maxHeartbeats 1600000 in
set_option maxRecDepth 100000 in
theorem cmpct0I_any (a : Option Addr) (cap : Nat) (fv : Value) (w : World) : Calls Tryz.prog 19 #[.slice a 0 cap, fv] w (fun e w' => e = .returned (.slice a 0 cap) ∧ w' = w) := by
  go_enter Tryz.func19, Tryz.ntmps19
  go_wp2_with fail
  go_ret
  exact ⟨rfl, rfl⟩
/-- slices.CompactFunc of a row of the call's own -/
theorem cmpctX_any (base : Nat) (v : Value) (ys : List InA) (w : World) (ho : OwnX 51 3 InA.enc w base v ys) (hc : LikeOf ys base w) (h8 : ys.length ≤ 1000000) :
    Calls Tryz.prog 19 #[v, .func (.func 22) #[] #[]] w (fun e w' => ∃ v2, e = .returned v2 ∧ OwnX 51 3 InA.enc w' base v2 (compI ys) ∧ Below base w w') := by
  rcases ho.2 with ⟨rfl, h0⟩ | ⟨g, cap, cur, rfl, _, _, _, _, _, _⟩
  · obtain rfl : ys = [] := List.eq_nil_of_length_eq_zero h0
    exact (cmpct0I_any none 0 _ w).mono fun e w' ⟨he, hw⟩ => ⟨_, he, by rw [hw]; exact ho, by rw [hw]; exact Below.refl _ _⟩
  · exact cmpctI_any base g cap ys.length ys w rfl ho hc h8
theorem compG_mem (l : List InA) (p x : InA) (h : x ∈ compG p l) : x ∈ l := by
  induction l generalizing p with
  | nil => simp [compG] at h
  | cons y l ih =>
    simp only [compG] at h
    split at h
    · exact List.mem_cons_of_mem _ (ih y h)
    · rcases List.mem_cons.1 h with rfl | h
      · exact List.mem_cons_self
      · exact List.mem_cons_of_mem _ (ih y h)
theorem compI_mem {l : List InA} {x : InA} (h : x ∈ compI l) : x ∈ l := by
  cases l with
  | nil => simp [compI] at h
  | cons y l =>
    rcases List.mem_cons.1 h with rfl | h
    · exact List.mem_cons_self
    · exact List.mem_cons_of_mem _ (compG_mem l y x h)
/-- k2 is the normal form of k -/
def NormOf (k k2 : CfA) : Prop := k2.rt = k.rt ∧ SortedN RuA.name k.ru k2.ru ∧ k2.re = sortS k.re ∧ (∃ ys, SortedN inhT k.ih ys ∧ k2.ih = compI ys) ∧ SortedN HrA.n k.hr k2.hr
abbrev zCfg : Array Value := #[.slice none 0 0, .string ⟨#[]⟩, .slice none 0 0, .slice none 0 0, .int .i64 0, .int .i64 0, .int .i64 0, .slice none 0 0, .bool false, .slice none 0 0, .slice none 0 0, .slice none 0 0, .slice none 0 0]
def NormP (B0 : Nat) (k : CfA) (w : World) (e : Ending) (w' : World) : Prop :=
  Below w.heap.size w w' ∧ ((cfgC k = true ∧ ∃ k2 : CfA, e = .returned (.tuple #[.agg (kCells k2), .int .i64 0]) ∧ (∀ W, Keep B0 w w' W → k2.ok W) ∧ NormOf k k2) ∨ (cfgC k = false ∧ e = .returned (.tuple #[.agg zCfg, .int .i64 1])))
theorem cfgC_len {k : CfA} (h : cfgC k = true) : k.ru.length ≤ 16 ∧ k.re.length ≤ 16 ∧ k.ih.length ≤ 8 ∧ k.hr.length ≤ 8 ∧ ∀ x ∈ k.ih, x.s.length ≤ 1000000 ∧ x.t.length ≤ 1000000 := by
  simp only [cfgC, Bool.and_eq_true, decide_eq_true_eq] at h
  refine ⟨h.1.1, h.2.2.1.1, h.2.2.2.2.1.1, h.2.2.2.2.2.1.1, fun x hx => ?_⟩
  have hg := List.all_eq_true.1 h.2.2.2.2.1.2 x hx
  simp only [InA.good, sideC, matchC, Bool.and_eq_true, decide_eq_true_eq] at hg
  omega
set_option maxHeartbeats 12800000 in
set_option maxRecDepth 100000 in
theorem cfgNormal_any (k : CfA) (w : World) (B0 : Nat) (hB0 : B0 ≤ w.heap.size) (h0 : ∀ W, Below B0 w W → k.ok W) : Calls Tryz.prog 7 #[.agg (kCells k)] w (NormP B0 k w) := by
  have h := h0 w (Below.refl _ _)
  obtain ⟨Q, hQ⟩ : ∃ Q, Q = NormP B0 k w := ⟨_, rfl⟩
  have HQ := Lib.hid hQ
  rw [← hQ]
  have hb1 := (Below.refl w.heap.size w).alloc (Nat.le_refl _) (.cells (kCells k) 31)
  have hb2 := balR (o := .cells zCfg 31) hb1
  have hA := (Blk.new w 31 (kCells k)).alloc (.cells zCfg 31)
  have hZ := nbR w (.cells (kCells k) 31) zCfg 31
  have HR := Lib.hid (fun W (hW : Below w.heap.size w W) => cfgRight_any k W (h.call hW))
  have H1 := Lib.hid (fun (hl : k.ru.length ≤ 16) W (hW : Below w.heap.size w W) => srtR_any k.ua k.uc k.ru W (h.1.keep hW) (by omega))
  have H2 := Lib.hid (fun (hl : k.re.length ≤ 16) W (hW : Below w.heap.size w W) => srtS_any k.ra k.rc k.re W (h.2.2.1.call hW) (by omega))
  have H3 := Lib.hid (fun (hl : k.ih.length ≤ 8) (hs : ∀ x ∈ k.ih, x.s.length ≤ 1000000 ∧ x.t.length ≤ 1000000) W (hW : Below w.heap.size w W) => srtI_any k.ia k.ic k.ih W (h.2.2.2.1.keep hW) (by omega) hs)
  have H4 := Lib.hid (fun (hl : k.hr.length ≤ 8) W (hW : Below w.heap.size w W) => srtH_any k.ha k.hc k.hr W (h.2.2.2.2.keep hW) (by omega))
  have HLK := Lib.hid (fun (ys : List InA) (hy : ∀ x ∈ ys, x ∈ k.ih) base W (hbs : w.heap.size ≤ base) (hW : Below w.heap.size w W) => show LikeOf ys base W from fun V hV x hx y hyy => likeInh_any x y V ((h.2.2.2.1.2.2.1 x (hy x hx)).call (hW.trans (hV.mono hbs))) ((h.2.2.2.1.2.2.1 y (hy y hyy)).call (hW.trans (hV.mono hbs))))
  have HK := Lib.hid h0
  have HL := Lib.hid (fun e => cfgC_len (k := k) e)
  have HB := Lib.hid hb2
  obtain ⟨B, hB⟩ : ∃ B, cfgC k = B := ⟨_, rfl⟩
  have HBB := Lib.hid hB
  rw [hB] at HR HL
  have HB0 := Lib.hid hB0
  clear hb1 hb2 h hQ hB h0 hB0
  obtain ⟨ru, ua, uc, ⟨n, ma, mc, ba, bc, ma2, mc2, ka, kc⟩, re, ra, rc, ih, ia, ic, hr, ha, hc⟩ := k
  simp only [kCells] at *
  go_enter Tryz.func7, Tryz.ntmps7
  go_upto_region 1 with fail
  generalize (w.alloc (.cells #[.slice ua ru.length uc, .string n.recv, .slice ma n.ms.length mc, .slice ba n.bys.length bc, .int .i64 n.wait, .int .i64 n.every, .int .i64 n.rep, .slice ma2 n.mute.length mc2, .bool n.on, .slice ka n.kids.length kc, .slice ra re.length rc, .slice ia ih.length ic, .slice ha hr.length hc] 31)).alloc (.cells zCfg 31) = wx at *
  obtain ⟨g, hg⟩ : ∃ g, w.heap.size = g := ⟨_, rfl⟩
  have HG : Hid (w.heap.size ≤ g) := by show _ ≤ _; omega
  rw [hg] at hA hZ ⊢
  clear hg
  have HA := Lib.hid hA
  have HZ := Lib.hid hZ
  obtain ⟨c0, c1, c2, c3, c4, c5, c6, c7, c8, c9, c10, c11, c12⟩ := hA.cells13
  clear hA hZ
  cases B
  case false =>
    go_wp2_with (go_at_call 9; refine (HR.out _ HB.out).mono ?_; rintro e w2 ⟨rfl, hb2⟩; obtain ⟨d0, d1, d2, d3, d4, d5, d6, d7, d8, d9, d10, d11, d12⟩ := (HZ.out.call hb2).cells13; have f0 := (HZ.out.call hb2).frozen 0; have f1 := (HZ.out.call hb2).frozen 1; have f2 := (HZ.out.call hb2).frozen 2; have f3 := (HZ.out.call hb2).frozen 3; have f4 := (HZ.out.call hb2).frozen 4; have f5 := (HZ.out.call hb2).frozen 5; have f6 := (HZ.out.call hb2).frozen 6; have f7 := (HZ.out.call hb2).frozen 7; have f8 := (HZ.out.call hb2).frozen 8; have f9 := (HZ.out.call hb2).frozen 9; have f10 := (HZ.out.call hb2).frozen 10; have f11 := (HZ.out.call hb2).frozen 11; have f12 := (HZ.out.call hb2).frozen 12)
    obtain ⟨s1, s2, s3⟩ := st13 (HZ.out.call hb2) (.slice none 0 0) (.string ⟨#[]⟩) (.slice none 0 0) (.slice none 0 0) (.int .i64 0) (.int .i64 0) (.int .i64 0) (.slice none 0 0) (.bool false) (.slice none 0 0) (.slice none 0 0) (.slice none 0 0) (.slice none 0 0) _ rfl
    have hbe := s3 w.heap.size (by have := HG.out; omega) w (bthen HB.out hb2)
    refine bodyPost_ret (v := .tuple #[.agg zCfg, .int .i64 1]) ?_ rfl ?_
    · refine (results_cell_tmpC rfl _ _ (g + 1) _ zCfg _ _ ?_ s1 Tryz.underlying31 rfl (by kernel_rfl)).trans ?_
      · rfl
      · rfl
    · rw [HQ.out]
      exact ⟨hbe, .inr ⟨HBB.out, rfl⟩⟩
  obtain ⟨l1, l2, l3, l4, l5⟩ := HL.out rfl
  go_upto_region 3 with (go_at_call 9; refine (HR.out _ HB.out).mono ?_; rintro e w2 ⟨rfl, hb2⟩)
  have HB2 := Lib.hid (bthen HB.out hb2)
  have hA := HA.out.call hb2
  have hZ := HZ.out.call hb2
  clear c0 c1 c2 c3 c4 c5 c6 c7 c8 c9 c10 c11 c12 hb2 HA HZ HB HR
  have HWZ : Hid (w.heap.size ≤ w2.heap.size) := HB2.out.size
  have HA1 := Lib.hid hA
  have HZ1 := Lib.hid hZ
  obtain ⟨b1, hbase1⟩ : ∃ b, w2.heap.size = b := ⟨_, rfl⟩
  have hgb1 : g < b1 := by have := hA.lt; omega
  have hgc1 : g + 1 < b1 := by have := hZ.lt; omega
  have HGB1 := Lib.hid (And.intro hgb1 hgc1)
  have HBS1 := Lib.hid hbase1
  obtain ⟨c0, c1, c2, c3, c4, c5, c6, c7, c8, c9, c10, c11, c12⟩ := hA.cells13
  clear hA hZ hbase1 hgb1 hgc1
  go_upto_region 4 with (go_at_call 15; refine (H1.out l1 _ HB2.out).mono ?_; rintro e wn ⟨v, y1, rfl, hl1, hs1, hon, hbn⟩; have HS1 := Lib.hid (And.intro hl1 hs1); clear hl1 hs1; obtain ⟨va1, vc1, rfl⟩ := hon.shape; have f0 := (HA1.out.call hbn).frozen 0; obtain ⟨d0, d1, d2, d3, d4, d5, d6, d7, d8, d9, d10, d11, d12⟩ := (HA1.out.call hbn).cells13)
  have hA : Blk _ g 31 #[(.slice va1 y1.length vc1), .string n.recv, .slice ma n.ms.length mc, .slice ba n.bys.length bc, .int .i64 n.wait, .int .i64 n.every, .int .i64 n.rep, .slice ma2 n.mute.length mc2, .bool n.on, .slice ka n.kids.length kc, .slice ra re.length rc, .slice ia ih.length ic, .slice ha hr.length hc] := (HA1.out.call hbn).set 0 (.slice va1 y1.length vc1)
  have hZ := (HZ1.out.call hbn).setO ⟨g, 0, none⟩ (.slice va1 y1.length vc1) (show g + 1 ≠ g by omega)
  have HB3 := Lib.hid ((bthen HB2.out hbn).setCell (p := ⟨g, 0, none⟩) HG.out (.slice va1 y1.length vc1))
  have HO1 := Lib.hid (hon.same (heap_set1 _ g 0 (.slice va1 y1.length vc1) _ (show g < w2.heap.size by rw [HBS1.out]; exact HGB1.out.1)))
  rw [HBS1.out] at HO1
  clear hon hbn c0 d0 c1 d1 c2 d2 c3 d3 c4 d4 c5 d5 c6 d6 c7 d7 c8 d8 c9 d9 c10 d10 c11 d11 c12 d12 f0
  generalize wn.setCell ⟨g, 0, none⟩ (.slice va1 y1.length vc1) = wx1 at *
  have HA2 := Lib.hid hA
  have HZ2 := Lib.hid hZ
  obtain ⟨b2, hbase2⟩ : ∃ b, wx1.heap.size = b := ⟨_, rfl⟩
  have hgb2 : g < b2 := by have := hA.lt; omega
  have hgc2 : g + 1 < b2 := by have := hZ.lt; omega
  have HGB2 := Lib.hid (And.intro hgb2 hgc2)
  have HBS2 := Lib.hid hbase2
  obtain ⟨c0, c1, c2, c3, c4, c5, c6, c7, c8, c9, c10, c11, c12⟩ := hA.cells13
  clear hA hZ hbase2 hgb2 hgc2
  go_upto_region 5 with (go_at_call 17; refine (H2.out l2 _ HB3.out).mono ?_; rintro e wn ⟨v, rfl, hon, hbn⟩; obtain ⟨y2, hy2⟩ : ∃ y, sortS re = y := ⟨_, rfl⟩; rw [hy2] at hon; have HS2 := Lib.hid hy2; clear hy2; obtain ⟨va2, vc2, rfl⟩ := hon.shape; have f0 := (HA2.out.call hbn).frozen 10; obtain ⟨d0, d1, d2, d3, d4, d5, d6, d7, d8, d9, d10, d11, d12⟩ := (HA2.out.call hbn).cells13)
  have hA : Blk _ g 31 #[(.slice va1 y1.length vc1), .string n.recv, .slice ma n.ms.length mc, .slice ba n.bys.length bc, .int .i64 n.wait, .int .i64 n.every, .int .i64 n.rep, .slice ma2 n.mute.length mc2, .bool n.on, .slice ka n.kids.length kc, (.slice va2 y2.length vc2), .slice ia ih.length ic, .slice ha hr.length hc] := (HA2.out.call hbn).set 10 (.slice va2 y2.length vc2)
  have hZ := (HZ2.out.call hbn).setO ⟨g, 10, none⟩ (.slice va2 y2.length vc2) (show g + 1 ≠ g by omega)
  have HB4 := Lib.hid ((bthen HB3.out hbn).setCell (p := ⟨g, 10, none⟩) HG.out (.slice va2 y2.length vc2))
  have HO1 := Lib.hid ((HO1.out.call hbn).same (heap_set1 _ g 10 (.slice va2 y2.length vc2) _ HGB1.out.1))
  have HO2 := Lib.hid (hon.same (heap_set1 _ g 10 (.slice va2 y2.length vc2) _ (show g < wx1.heap.size by rw [HBS2.out]; exact HGB2.out.1)))
  rw [HBS2.out] at HO2
  clear hon hbn c0 d0 c1 d1 c2 d2 c3 d3 c4 d4 c5 d5 c6 d6 c7 d7 c8 d8 c9 d9 c10 d10 c11 d11 c12 d12 f0
  generalize wn.setCell ⟨g, 10, none⟩ (.slice va2 y2.length vc2) = wx2 at *
  have HA3 := Lib.hid hA
  have HZ3 := Lib.hid hZ
  obtain ⟨b3, hbase3⟩ : ∃ b, wx2.heap.size = b := ⟨_, rfl⟩
  have hgb3 : g < b3 := by have := hA.lt; omega
  have hgc3 : g + 1 < b3 := by have := hZ.lt; omega
  have HGB3 := Lib.hid (And.intro hgb3 hgc3)
  have HBS3 := Lib.hid hbase3
  obtain ⟨c0, c1, c2, c3, c4, c5, c6, c7, c8, c9, c10, c11, c12⟩ := hA.cells13
  clear hA hZ hbase3 hgb3 hgc3
  go_upto_region 6 with (first | (go_at_call 20; refine (H3.out l3 l5 _ HB4.out).mono ?_; rintro e wn0 ⟨v, ys, rfl, hl3, hs3, hon0, hbn0⟩; have hl8 : ys.length ≤ 1000000 := (by omega); clear hl3) | (go_at_call 19; refine (cmpctX_any _ _ ys wn0 hon0 (HLK.out ys (fun x hx => hs3.1.mem_iff.1 hx) _ _ HB4.out.size (bthen HB4.out hbn0)) hl8).mono ?_; rintro e wn ⟨v2, rfl, hon, hbn1⟩; have hbn := hbn0.trans hbn1; obtain ⟨y3, hy3⟩ : ∃ y, compI ys = y := ⟨_, rfl⟩; rw [hy3] at hon; have HS3 := Lib.hid (And.intro hs3 hy3); clear hs3 hy3; obtain ⟨va3, vc3, rfl⟩ := hon.shape; have f0 := (HA3.out.call hbn).frozen 11; obtain ⟨d0, d1, d2, d3, d4, d5, d6, d7, d8, d9, d10, d11, d12⟩ := (HA3.out.call hbn).cells13))
  have hA : Blk _ g 31 #[(.slice va1 y1.length vc1), .string n.recv, .slice ma n.ms.length mc, .slice ba n.bys.length bc, .int .i64 n.wait, .int .i64 n.every, .int .i64 n.rep, .slice ma2 n.mute.length mc2, .bool n.on, .slice ka n.kids.length kc, (.slice va2 y2.length vc2), (.slice va3 y3.length vc3), .slice ha hr.length hc] := (HA3.out.call hbn).set 11 (.slice va3 y3.length vc3)
  have hZ := (HZ3.out.call hbn).setO ⟨g, 11, none⟩ (.slice va3 y3.length vc3) (show g + 1 ≠ g by omega)
  have HB5 := Lib.hid ((bthen HB4.out hbn).setCell (p := ⟨g, 11, none⟩) HG.out (.slice va3 y3.length vc3))
  have HO1 := Lib.hid ((HO1.out.call hbn).same (heap_set1 _ g 11 (.slice va3 y3.length vc3) _ HGB1.out.1))
  have HO2 := Lib.hid ((HO2.out.call hbn).same (heap_set1 _ g 11 (.slice va3 y3.length vc3) _ HGB2.out.1))
  have HO3 := Lib.hid (hon.same (heap_set1 _ g 11 (.slice va3 y3.length vc3) _ (show g < wx2.heap.size by rw [HBS3.out]; exact HGB3.out.1)))
  rw [HBS3.out] at HO3
  clear hon hbn c0 d0 c1 d1 c2 d2 c3 d3 c4 d4 c5 d5 c6 d6 c7 d7 c8 d8 c9 d9 c10 d10 c11 d11 c12 d12 f0
  generalize wn.setCell ⟨g, 11, none⟩ (.slice va3 y3.length vc3) = wx3 at *
  clear hl8 hon0 hbn0 hbn1
  have HA4 := Lib.hid hA
  have HZ4 := Lib.hid hZ
  obtain ⟨b4, hbase4⟩ : ∃ b, wx3.heap.size = b := ⟨_, rfl⟩
  have hgb4 : g < b4 := by have := hA.lt; omega
  have hgc4 : g + 1 < b4 := by have := hZ.lt; omega
  have HGB4 := Lib.hid (And.intro hgb4 hgc4)
  have HBS4 := Lib.hid hbase4
  obtain ⟨c0, c1, c2, c3, c4, c5, c6, c7, c8, c9, c10, c11, c12⟩ := hA.cells13
  clear hA hZ hbase4 hgb4 hgc4
  go_upto_region 7 with (go_at_call 23; refine (H4.out l4 _ HB5.out).mono ?_; rintro e wn ⟨v, y4, rfl, hl4, hs4, hon, hbn⟩; have HS4 := Lib.hid (And.intro hl4 hs4); clear hl4 hs4; obtain ⟨va4, vc4, rfl⟩ := hon.shape; have f0 := (HA4.out.call hbn).frozen 12; obtain ⟨d0, d1, d2, d3, d4, d5, d6, d7, d8, d9, d10, d11, d12⟩ := (HA4.out.call hbn).cells13)
  have hA : Blk _ g 31 #[(.slice va1 y1.length vc1), .string n.recv, .slice ma n.ms.length mc, .slice ba n.bys.length bc, .int .i64 n.wait, .int .i64 n.every, .int .i64 n.rep, .slice ma2 n.mute.length mc2, .bool n.on, .slice ka n.kids.length kc, (.slice va2 y2.length vc2), (.slice va3 y3.length vc3), (.slice va4 y4.length vc4)] := (HA4.out.call hbn).set 12 (.slice va4 y4.length vc4)
  have hZ := (HZ4.out.call hbn).setO ⟨g, 12, none⟩ (.slice va4 y4.length vc4) (show g + 1 ≠ g by omega)
  have HB6 := Lib.hid ((bthen HB5.out hbn).setCell (p := ⟨g, 12, none⟩) HG.out (.slice va4 y4.length vc4))
  have HO1 := Lib.hid ((HO1.out.call hbn).same (heap_set1 _ g 12 (.slice va4 y4.length vc4) _ HGB1.out.1))
  have HO2 := Lib.hid ((HO2.out.call hbn).same (heap_set1 _ g 12 (.slice va4 y4.length vc4) _ HGB2.out.1))
  have HO3 := Lib.hid ((HO3.out.call hbn).same (heap_set1 _ g 12 (.slice va4 y4.length vc4) _ HGB3.out.1))
  have HO4 := Lib.hid (hon.same (heap_set1 _ g 12 (.slice va4 y4.length vc4) _ (show g < wx3.heap.size by rw [HBS4.out]; exact HGB4.out.1)))
  rw [HBS4.out] at HO4
  clear hon hbn c0 d0 c1 d1 c2 d2 c3 d3 c4 d4 c5 d5 c6 d6 c7 d7 c8 d8 c9 d9 c10 d10 c11 d11 c12 d12 f0
  generalize wn.setCell ⟨g, 12, none⟩ (.slice va4 y4.length vc4) = wx4 at *
  have HA5 := Lib.hid hA
  have HZ5 := Lib.hid hZ
  obtain ⟨c0, c1, c2, c3, c4, c5, c6, c7, c8, c9, c10, c11, c12⟩ := hA.cells13
  obtain ⟨d0, d1, d2, d3, d4, d5, d6, d7, d8, d9, d10, d11, d12⟩ := hZ.cells13
  have f0 := hZ.frozen 0
  have f1 := hZ.frozen 1
  have f2 := hZ.frozen 2
  have f3 := hZ.frozen 3
  have f4 := hZ.frozen 4
  have f5 := hZ.frozen 5
  have f6 := hZ.frozen 6
  have f7 := hZ.frozen 7
  have f8 := hZ.frozen 8
  have f9 := hZ.frozen 9
  have f10 := hZ.frozen 10
  have f11 := hZ.frozen 11
  have f12 := hZ.frozen 12
  clear hA hZ
  go_wp2_with fail
  generalize hWF : (((((((((((((wx4.setCell ⟨g + 1, 0, none⟩ (.slice va1 y1.length vc1)).setCell ⟨g + 1, 1, none⟩ (.string n.recv)).setCell ⟨g + 1, 2, none⟩ (.slice ma n.ms.length mc)).setCell ⟨g + 1, 3, none⟩ (.slice ba n.bys.length bc)).setCell ⟨g + 1, 4, none⟩ (.int .i64 n.wait)).setCell ⟨g + 1, 5, none⟩ (.int .i64 n.every)).setCell ⟨g + 1, 6, none⟩ (.int .i64 n.rep)).setCell ⟨g + 1, 7, none⟩ (.slice ma2 n.mute.length mc2)).setCell ⟨g + 1, 8, none⟩ (.bool n.on)).setCell ⟨g + 1, 9, none⟩ (.slice ka n.kids.length kc)).setCell ⟨g + 1, 10, none⟩ (.slice va2 y2.length vc2)).setCell ⟨g + 1, 11, none⟩ (.slice va3 y3.length vc3)).setCell ⟨g + 1, 12, none⟩ (.slice va4 y4.length vc4)) = WF
  obtain ⟨s1, s2, s3⟩ := st13 HZ5.out (.slice va1 y1.length vc1) (.string n.recv) (.slice ma n.ms.length mc) (.slice ba n.bys.length bc) (.int .i64 n.wait) (.int .i64 n.every) (.int .i64 n.rep) (.slice ma2 n.mute.length mc2) (.bool n.on) (.slice ka n.kids.length kc) (.slice va2 y2.length vc2) (.slice va3 y3.length vc3) (.slice va4 y4.length vc4) WF hWF.symm
  clear hWF c0 d0 f0 c1 d1 f1 c2 d2 f2 c3 d3 f3 c4 d4 f4 c5 d5 f5 c6 d6 f6 c7 d7 f7 c8 d8 f8 c9 d9 f9 c10 d10 f10 c11 d11 f11 c12 d12 f12
  have hbe := s3 w.heap.size (by have := HG.out; omega) w HB6.out
  have hgs := s3 w.heap.size (by have := HG.out; omega) w HB6.out
  have hok : ∀ W, Keep B0 w WF W → (⟨y1, va1, vc1, ⟨n, ma, mc, ba, bc, ma2, mc2, ka, kc⟩, y2, va2, vc2, y3, va3, vc3, y4, va4, vc4⟩ : CfA).ok W := by
    intro W ⟨hw1, hw2, hw3⟩
    have hwb : w.heap.size ≤ b1 ∧ w.heap.size ≤ b2 ∧ w.heap.size ≤ b3 ∧ w.heap.size ≤ b4 := by
      have h1 := HGB1.out.1
      have h2 := HGB2.out.1
      have h3 := HGB3.out.1
      have h4 := HGB4.out.1
      have h5 := HG.out
      omega
    have o1 := (HO1.out.same (fun q hq => s2 q (by have := HGB1.out.2; omega))).sameL (fun q hq hz => hw3 q (by omega) hz)
    have o2 := (HO2.out.same (fun q hq => s2 q (by have := HGB2.out.2; omega))).sameL (fun q hq hz => hw3 q (by omega) hz)
    have o3 := (HO3.out.same (fun q hq => s2 q (by have := HGB3.out.2; omega))).sameL (fun q hq hz => hw3 q (by omega) hz)
    have o4 := (HO4.out.same (fun q hq => s2 q (by have := HGB4.out.2; omega))).sameL (fun q hq hz => hw3 q (by omega) hz)
    obtain ⟨k1, k2, k3, k4, k5⟩ := HK.out W hw1
    obtain ⟨_, _, e1, r1⟩ := o1.row (ok := RuA.ok) RuA.enc_len (fun x hx => k1.2.2.1 x (HS1.out.2.1.mem_iff.1 hx))
    obtain ⟨_, _, e2, r2⟩ := o2.strs (fun s hs => k3.2.2.1 s ((sortS_mem (by rw [HS2.out]; exact hs))))
    obtain ⟨_, _, e3, r3⟩ := o3.row (ok := InA.ok) InA.enc_len (fun x hx => k4.2.2.1 x (HS3.out.1.1.mem_iff.1 (compI_mem (by rw [HS3.out.2]; exact hx))))
    obtain ⟨_, _, e4, r4⟩ := o4.row (ok := HrA.ok) HrA.enc_len (fun x hx => k5.2.2.1 x (HS4.out.2.1.mem_iff.1 hx))
    simp only [Value.slice.injEq] at e1 e2 e3 e4
    obtain ⟨rfl, _, rfl⟩ := e1
    obtain ⟨rfl, _, rfl⟩ := e2
    obtain ⟨rfl, _, rfl⟩ := e3
    obtain ⟨rfl, _, rfl⟩ := e4
    exact ⟨r1, k2, r2, r3, r4⟩
  refine bodyPost_ret (v := .tuple #[.agg #[(.slice va1 y1.length vc1), .string n.recv, .slice ma n.ms.length mc, .slice ba n.bys.length bc, .int .i64 n.wait, .int .i64 n.every, .int .i64 n.rep, .slice ma2 n.mute.length mc2, .bool n.on, .slice ka n.kids.length kc, (.slice va2 y2.length vc2), (.slice va3 y3.length vc3), (.slice va4 y4.length vc4)], .int .i64 0]) ?_ rfl ?_
  · refine (results_cell_tmpC rfl _ _ (g + 1) _ #[(.slice va1 y1.length vc1), .string n.recv, .slice ma n.ms.length mc, .slice ba n.bys.length bc, .int .i64 n.wait, .int .i64 n.every, .int .i64 n.rep, .slice ma2 n.mute.length mc2, .bool n.on, .slice ka n.kids.length kc, (.slice va2 y2.length vc2), (.slice va3 y3.length vc3), (.slice va4 y4.length vc4)] _ _ ?_ s1 Tryz.underlying31 rfl (by kernel_rfl)).trans ?_
    · rfl
    · rfl
  · rw [HQ.out]
    exact ⟨hbe, .inl ⟨HBB.out, ⟨y1, va1, vc1, ⟨n, ma, mc, ba, bc, ma2, mc2, ka, kc⟩, y2, va2, vc2, y3, va3, vc3, y4, va4, vc4⟩, rfl, hok, rfl, HS1.out.2, HS2.out.symm, ⟨_, HS3.out.1, HS3.out.2.symm⟩, HS4.out.2⟩⟩
end Go.Proofs.YtmhekhilgllciaaGreat
