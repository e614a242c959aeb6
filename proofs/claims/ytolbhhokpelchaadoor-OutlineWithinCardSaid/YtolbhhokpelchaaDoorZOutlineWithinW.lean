/- The walk of the statement OutlineWithin: a node that stands in a map of one name is printed as that name, and behind it as it is; a text of a map goes on with another item behind it. -/
import Derived.Test.YtolbhhokpelchaaDoorMg7
import Derived.Test.YtolbhhokpelchaaDoorMg8
import Derived.Test.YtolbhhokpelchaaDoorZOtlL
import Derived.Deep.CutBlock
import Derived.IntWalk
namespace Go.Proofs.YtolbhhokpelchaaDoor
open Go.RowKit

theorem hasPre_any (s p : ByteArray) (w : World) : Calls Tryd.prog 25 #[.string s, .string p] w (BoolS (Lib.hasPrefix s.data.toList p.data.toList) w) :=
  (Tryd.strings_HasPrefix s p w).mono fun _ _ h => ⟨h.1, h.2.symm⟩

set_option maxHeartbeats 12800000 in
set_option maxRecDepth 100000 in
theorem outlineWithin_walk {w : World} (q : NdAt) (hq : q.ok w) (a : ByteArray) (_ha : a.size ≤ maxLen) (hm : MaxC w) :
    Calls Tryd.prog 7 #[.agg (nCells q), .string a] w (BoolW true w) := by
  have HA := Lib.hid (fun W (h : Below w.heap.size w W) => alive_any W (hm.call h))
  have HM := Lib.hid (fun W (h : Below w.heap.size w W) => many_any hq W 300 h (by omega))
  have HQ := Lib.hid (fun W (h : Below w.heap.size w W) => hq.call h)
  have HL := Lib.hid (rLines_any hq)
  have HMC := Lib.hid hm
  have hm1 : ∀ W (t : TypeId) (ts : Array TypeId), (Builtin.min_ ts t #[.int .i64 (a.size : Int), .int .i64 205]).run Tryd.prog W = .ok (.int .i64 ((min a.size 205 : Nat) : Int)) W := fun W t ts => run_minN W ts t a.size 205
  have hs1 := fun W => run_cutN (P := Tryd.prog) W 9 205 a Tryd.underlying9
  have l1 := cutN_size 205 a
  generalize cutN 205 a = A at *
  generalize min a.size 205 = m1 at *
  have LA := Lib.hid (show A.size ≤ maxLen by unfold maxLen; omega)
  have HWF := Lib.hid (fun h => within_facts q.n A h)
  have HWN := Lib.hid (fun h => within_not q.n h)
  have hb := below_al (o := .cells (nCells q) 25) (Below.refl w.heap.size w)
  have hB := Blk.new w 25 (nCells q)
  clear hm hq l1
  obtain ⟨n, na, nc, ia, ic⟩ := q
  simp only [nCells] at *
  go_enter Tryd.func7, Tryd.ntmps7
  go_upto_region 1 with fail
  have HB0 := Lib.hid hb
  generalize w.alloc (.cells #[.int .i64 n.kind, .string n.word, .slice na n.names.length nc, .slice ia n.items.length ic] 25) = wx at *
  obtain ⟨g2, hg2⟩ : ∃ g, w.heap.size = g := ⟨_, rfl⟩
  have HG2 := Lib.hid hg2
  rw [hg2] at hB ⊢
  clear hg2 hb
  obtain ⟨c0, c1, c2, c3⟩ := hB.cells4
  go_upto_region 4 with (first
    | (go_at_call 9; refine (HM.out _ HB0.out).mono ?_; rintro e w1 ⟨z, rfl, hz1, hz2, hz3, hb1⟩; have HB1 := Lib.hid (bthen HB0.out hb1); have hB1 := hB.call hb1; obtain ⟨d0, d1, d2, d3⟩ := hB1.cells4)
    | (go_at_call 10; refine (HA.out _ HB1.out).mono ?_; rintro e w2 ⟨rfl, hb2⟩))
  · go_ret
    exact ⟨rfl, bthen HB1.out hb2⟩
  clear d0 d1 d2 d3 c0 c1 c2 c3 hB hz1 hz2 hz3 hm1 hs1
  have d0 := fun o => (hB1.alloc o).cells4.1
  have d1 := fun o => (hB1.alloc o).cells4.2.1
  have d2 := fun o => (hB1.alloc o).cells4.2.2.1
  have d3 := fun o => (hB1.alloc o).cells4.2.2.2
  go_upto_region 5 with fail
  clear d0 d1 d2 d3
  obtain ⟨gN, hgN⟩ : ∃ g, w1.heap.size = g := ⟨_, rfl⟩
  have hB3 := (hB1.alloc (.cells #[.string ⟨#[97]⟩] 9)).alloc (.cells #[.int .i64 n.kind, .string n.word, .slice na n.names.length nc, .slice ia n.items.length ic] 25)
  have hN3 := (Blk.new w1 9 #[.string ⟨#[97]⟩]).alloc (.cells #[.int .i64 n.kind, .string n.word, .slice na n.names.length nc, .slice ia n.items.length ic] 25)
  have hI3 := nbN w1 (.cells #[.string ⟨#[97]⟩] 9) #[.int .i64 n.kind, .string n.word, .slice na n.names.length nc, .slice ia n.items.length ic] 25
  have hb3 := below_al (o := .cells #[.int .i64 n.kind, .string n.word, .slice na n.names.length nc, .slice ia n.items.length ic] 25) (below_al (o := .cells #[.string ⟨#[97]⟩] 9) (Below.refl w1.heap.size w1))
  have hsz3 : ((w1.alloc (.cells #[.string ⟨#[97]⟩] 9)).alloc (.cells #[.int .i64 n.kind, .string n.word, .slice na n.names.length nc, .slice ia n.items.length ic] 25)).heap.size = gN + 2 := by rw [← hgN]; simp
  generalize (w1.alloc (.cells #[.string ⟨#[97]⟩] 9)).alloc (.cells #[.int .i64 n.kind, .string n.word, .slice na n.names.length nc, .slice ia n.items.length ic] 25) = w3 at *
  rw [hgN] at hN3 hI3 ⊢
  have HB3 := Lib.hid (bthen HB1.out hb3)
  clear hgN hb3 hB1
  try rw [hsz3]
  have hB5 := Blk.new w3 25 #[.int .i64 3, .string ⟨#[]⟩, .slice (some ⟨gN, 0, none⟩) 1 1, .slice (some ⟨gN + 1, 0, none⟩) 1 1]
  rw [hsz3] at hB5
  have hb5 := below_al (o := .cells #[.int .i64 3, .string ⟨#[]⟩, .slice (some ⟨gN, 0, none⟩) 1 1, .slice (some ⟨gN + 1, 0, none⟩) 1 1] 25) (Below.refl w3.heap.size w3)
  have hB2' := hB3.call hb5
  have hok1 := inA_ok _ ⟨n, na, nc, ia, ic⟩ (HQ.out _ (bthen HB3.out hb5)) gN (gN + 1) (hN3.call hb5) (hI3.call hb5)
  have HB5 := Lib.hid (bthen HB3.out hb5)
  clear hB3 hN3 hI3 hb5 HB3
  generalize w3.alloc (.cells #[.int .i64 3, .string ⟨#[]⟩, .slice (some ⟨gN, 0, none⟩) 1 1, .slice (some ⟨gN + 1, 0, none⟩) 1 1] 25) = w5 at *
  have HPR := Lib.hid (show Calls Tryd.prog 11 #[.agg #[.int .i64 3, .string ⟨#[]⟩, .slice (some ⟨gN, 0, none⟩) 1 1, .slice (some ⟨gN + 1, 0, none⟩) 1 1]] w5 (fun e w' => e = .returned (.tuple #[.string (printS (inA n)), .int .i64 (printE (inA n))]) ∧ Below w5.heap.size w5 w') from oPrint_any _ _ hok1)
  have HRG := Lib.hid (fun W (h : Below w5.heap.size w5 W) => show Calls Tryd.prog 12 #[.agg #[.int .i64 3, .string ⟨#[]⟩, .slice (some ⟨gN, 0, none⟩) 1 1, .slice (some ⟨gN + 1, 0, none⟩) 1 1]] W (BoolW (nodeC (inA n)) W) from oRight_any _ _ (hok1.call h))
  clear hok1
  obtain ⟨E1, hE1⟩ : ∃ E, printE (inA n) = E := ⟨_, rfl⟩
  obtain ⟨S1, hS1⟩ : ∃ S, printS (inA n) = S := ⟨_, rfl⟩
  rw [hE1, hS1] at HPR HWF
  rw [hE1] at HWN
  clear hE1 hS1
  obtain ⟨f0, f1, f2, f3⟩ := hB5.cells4
  by_cases h1 : E1 = 0
  case neg =>
    have e0 : (E1 != 0) = true := bne_iff_ne.2 h1
    rcases HWN.out h1 with rfl | ⟨rfl, hnc⟩
    · clear h1
      go_wp2_with (first
        | (go_at_call 11; refine HPR.out.mono ?_; rintro e w6 ⟨rfl, hb6⟩)
        | (go_at_call 10; refine (HA.out _ (bthen HB5.out hb6)).mono ?_; rintro e w7 ⟨rfl, hb7⟩))
      go_ret
      exact ⟨rfl, bthen HB5.out (bthen hb6 hb7)⟩
    · rw [hnc] at HRG
      clear h1 hnc
      go_wp2_with (first
        | (go_at_call 11; refine HPR.out.mono ?_; rintro e w6 ⟨rfl, hb6⟩)
        | (go_at_call 10; refine (HA.out _ (bthen HB5.out hb6)).mono ?_; rintro e w7 ⟨rfl, hb7⟩; obtain ⟨f0, f1, f2, f3⟩ := (hB5.call (bthen hb6 hb7)).cells4)
        | (go_at_call 12; refine (HRG.out _ (bthen hb6 hb7)).mono ?_; rintro e w8 ⟨rfl, hb8⟩))
      go_ret
      exact ⟨rfl, bthen HB5.out (bthen hb6 (bthen hb7 hb8))⟩
  case pos =>
  subst h1
  obtain ⟨k1, k2, k3, k4, k5, k6, k7⟩ := HWF.out rfl
  clear HWN HRG HWF
  go_upto_region 8 with (go_at_call 11; refine HPR.out.mono ?_; rintro e w6 ⟨rfl, hb6⟩)
  have HB6 := Lib.hid (bthen HB5.out hb6)
  have hB6 := hB2'.call hb6
  have HK6 := Lib.hid k6
  have HK7 := Lib.hid k7
  have HK1 := Lib.hid k1
  clear HPR hB5 f0 f1 f2 f3 hb6 k6 k7 HB5 hB2'
  go_cut [71] (fun v wy => v = .bool false ∧ Below w6.heap.size w6 wy)
  case first =>
    obtain ⟨f0, f1, f2, f3⟩ := hB6.cells4
    by_cases hi : n.items.length = 0
    case pos =>
      have l0 : decide ((0 : Int) < (n.items.length : Int)) = false := decide_eq_false (by omega)
      have l1 : decide (0 < n.items.length) = false := decide_eq_false (by omega)
      have l2 : ((n.items.length : Int) == 0) = true := by rw [hi]; rfl
      have HPX := Lib.hid (fun W => hasPre_any S1 ⟨#[97, 58, 32]⟩ W)
      have k4' := k4 hi
      have HPX2 : Hid (∀ W, Calls Tryd.prog 25 #[.string S1, .string ⟨#[97, 58, 32]⟩] W (BoolS true W)) := Lib.hid (fun W => by
        have := HPX.out W
        rw [show (⟨#[97, 58, 32]⟩ : ByteArray).data.toList = [97, 58, 32] from rfl, k4'] at this
        exact this)
      clear hi k1 k2 k3 k4 k5 k4' HPX
      go_wp2_with (first
        | (go_at_call 25; refine (HPX2.out _).mono ?_; rintro e w7 ⟨rfl, rfl⟩)
        | (go_at_call 10; refine (HA.out _ HB6.out).mono ?_; rintro e w8 ⟨rfl, hb8⟩))
      go_meet
      exact ⟨rfl, hb8⟩
    case neg =>
      have l0 : decide ((0 : Int) < (n.items.length : Int)) = true := decide_eq_true (by omega)
      have l1 : decide (0 < n.items.length) = true := decide_eq_true (by omega)
      have l2 : ((n.items.length : Int) == 0) = false := beq_eq_false_iff_ne.2 (by omega)
      have hLI := HL.out 1 7 w6 k1 (by omega) HB6.out (by show (n.linesT 1).length ≤ _; omega)
      have hS := k3 hi
      obtain ⟨LB, hLB⟩ : ∃ X, bytesA (n.linesT 1) = X := ⟨_, rfl⟩
      have hLz : LB.size ≤ 8192 := by rw [← hLB]; show (Array.size _) ≤ _; simp only [List.size_toArray]; exact k2
      rw [hLB] at hS
      have HLI : Hid (Calls Tryd.prog 16 #[.agg #[.int .i64 n.kind, .string n.word, .slice na n.names.length nc, .slice ia n.items.length ic], .int .i64 1] w6 (StrB LB w6)) := Lib.hid (by rw [← hLB]; exact hLI)
      have hp1 : ¬ 9223372036854775807 < 3 + LB.size := by omega
      have hp2 : ¬ 9223372036854775807 < (⟨#[97, 58, 10]⟩ : ByteArray).size + LB.size := hp1
      have hne : (!(S1.toList == ((⟨#[97, 58, 10]⟩ : ByteArray) ++ LB).toList)) = false := by rw [hS]; simp
      clear hi k1 k2 k3 k4 k5 hLI hS hLB hLz
      go_wp2_with (first
        | (go_at_call 16; refine HLI.out.mono ?_; rintro e w7 ⟨rfl, hb7⟩; obtain ⟨f0, f1, f2, f3⟩ := (hB6.call hb7).cells4)
        | (go_at_call 10; refine (HA.out _ (bthen HB6.out hb7)).mono ?_; rintro e w8 ⟨rfl, hb8⟩))
      go_meet
      exact ⟨rfl, bthen hb7 hb8⟩
  case rest =>
  obtain ⟨rfl, hcut⟩ := hcut
  have hB7 := hB6.call hcut
  have HB7 := Lib.hid (bthen HB6.out hcut)
  clear hB6 HB6 hcut k2 k3 k4 k1
  have d0 := fun o => (hB7.alloc o).cells4.1
  have d1 := fun o => (hB7.alloc o).cells4.2.1
  have d2 := fun o => (hB7.alloc o).cells4.2.2.1
  have d3 := fun o => (hB7.alloc o).cells4.2.2.2
  go_upto_region 11 with fail
  clear d0 d1 d2 d3
  obtain ⟨gM, hgM⟩ : ∃ g, wc.heap.size = g := ⟨_, rfl⟩
  have hN3 := (Blk.new wc 9 #[.string ⟨#[97]⟩, .string ⟨#[98]⟩]).alloc (.cells #[.int .i64 n.kind, .string n.word, .slice na n.names.length nc, .slice ia n.items.length ic, .int .i64 1, .string A, .slice none 0 0, .slice none 0 0] 25)
  have hI3 := nbN wc (.cells #[.string ⟨#[97]⟩, .string ⟨#[98]⟩] 9) #[.int .i64 n.kind, .string n.word, .slice na n.names.length nc, .slice ia n.items.length ic, .int .i64 1, .string A, .slice none 0 0, .slice none 0 0] 25
  have hb3 := below_al (o := .cells #[.int .i64 n.kind, .string n.word, .slice na n.names.length nc, .slice ia n.items.length ic, .int .i64 1, .string A, .slice none 0 0, .slice none 0 0] 25) (below_al (o := .cells #[.string ⟨#[97]⟩, .string ⟨#[98]⟩] 9) (Below.refl wc.heap.size wc))
  have hsz4 : ((wc.alloc (.cells #[.string ⟨#[97]⟩, .string ⟨#[98]⟩] 9)).alloc (.cells #[.int .i64 n.kind, .string n.word, .slice na n.names.length nc, .slice ia n.items.length ic, .int .i64 1, .string A, .slice none 0 0, .slice none 0 0] 25)).heap.size = gM + 2 := by rw [← hgM]; simp
  generalize (wc.alloc (.cells #[.string ⟨#[97]⟩, .string ⟨#[98]⟩] 9)).alloc (.cells #[.int .i64 n.kind, .string n.word, .slice na n.names.length nc, .slice ia n.items.length ic, .int .i64 1, .string A, .slice none 0 0, .slice none 0 0] 25) = w8 at *
  rw [hgM] at hN3 hI3 ⊢
  have HB8 := Lib.hid (bthen HB7.out hb3)
  clear hgM hb3 hB7 HB7
  try rw [hsz4]
  have hB9 := Blk.new w8 25 #[.int .i64 3, .string ⟨#[]⟩, .slice (some ⟨gM, 0, none⟩) 2 2, .slice (some ⟨gM + 1, 0, none⟩) 2 2]
  rw [hsz4] at hB9
  have hb9 := below_al (o := .cells #[.int .i64 3, .string ⟨#[]⟩, .slice (some ⟨gM, 0, none⟩) 2 2, .slice (some ⟨gM + 1, 0, none⟩) 2 2] 25) (Below.refl w8.heap.size w8)
  have hok2 := inAB_ok _ ⟨n, na, nc, ia, ic⟩ (HQ.out _ (bthen HB8.out hb9)) A LA.out gM (gM + 1) (hN3.call hb9) (hI3.call hb9)
  have HB9 := Lib.hid (bthen HB8.out hb9)
  clear hN3 hI3 hb9 HB8
  generalize w8.alloc (.cells #[.int .i64 3, .string ⟨#[]⟩, .slice (some ⟨gM, 0, none⟩) 2 2, .slice (some ⟨gM + 1, 0, none⟩) 2 2] 25) = w9 at *
  have HPR := Lib.hid (show Calls Tryd.prog 11 #[.agg #[.int .i64 3, .string ⟨#[]⟩, .slice (some ⟨gM, 0, none⟩) 2 2, .slice (some ⟨gM + 1, 0, none⟩) 2 2]] w9 (fun e w' => e = .returned (.tuple #[.string (printS (inAB n A)), .int .i64 (printE (inAB n A))]) ∧ Below w9.heap.size w9 w') from oPrint_any _ _ hok2)
  have HPP := Lib.hid (fun h : printE (inAB n A) = 0 => printS_parse h)
  clear hok2
  obtain ⟨E2, hE2⟩ : ∃ E, printE (inAB n A) = E := ⟨_, rfl⟩
  obtain ⟨S2, hS2⟩ : ∃ S, printS (inAB n A) = S := ⟨_, rfl⟩
  rw [hE2, hS2] at HPR HPP
  rw [hE2] at HK6
  rw [hE2, hS2] at HK7
  clear hE2 hS2
  obtain ⟨f0, f1, f2, f3⟩ := hB9.cells4
  by_cases h2 : E2 = 0
  case neg =>
    have e0 : (E2 != 0) = true := bne_iff_ne.2 h2
    rcases HK6.out h2 with rfl | ⟨rfl, how⟩
    · clear h2
      go_wp2_with (go_at_call 11; refine HPR.out.mono ?_; rintro e w10 ⟨rfl, hb10⟩)
      go_ret
      exact ⟨rfl, bthen HB9.out hb10⟩
    · have HWD := Lib.hid (fun W => rWordN_any A W LA.out)
      rw [how] at HWD
      clear h2 how
      go_wp2_with (first
        | (go_at_call 11; refine HPR.out.mono ?_; rintro e w10 ⟨rfl, hb10⟩)
        | (go_at_call 26; refine (HWD.out _).mono ?_; rintro e w11 ⟨rfl, rfl⟩))
      go_ret
      exact ⟨rfl, bthen HB9.out hb10⟩
  case pos =>
  subst h2
  have hpp := HPP.out rfl
  have hpre := HK7.out rfl
  have HPA := Lib.hid (show ∀ W, Below w.heap.size w W → Calls Tryd.prog 17 #[.string S2] W fun e w' => ∃ q : NdAt, q.n = inAB n A ∧ q.ok w' ∧ e = .returned (.tuple #[.agg (nCells q), .int .i64 0, .int .i64 0]) ∧ Below W.heap.size W w' from fun W h => (oParse_any S2 W (HMC.out.call h)).mono fun e w' ⟨h1, q, h2, h3, h4⟩ => by
    rw [hpp] at h2 h4
    exact ⟨q, h2, h3, h4, h1⟩)
  have HPX : Hid (∀ W, Calls Tryd.prog 25 #[.string S2, .string (S1 ++ ⟨#[98, 58, 32]⟩)] W (BoolS true W)) := Lib.hid (fun W => by
    have := hasPre_any S2 (S1 ++ ⟨#[98, 58, 32]⟩) W
    rw [hpre] at this
    exact this)
  have hp1 : ¬ 9223372036854775807 < S1.size + 3 := by omega
  have hp2 : ¬ 9223372036854775807 < S1.size + (⟨#[98, 58, 32]⟩ : ByteArray).size := hp1
  clear HK6 HK7 HPP hpp hpre k5
  go_upto_region 14 with (go_at_call 11; refine HPR.out.mono ?_; rintro e w10 ⟨rfl, hb10⟩)
  go_upto_region 15 with (go_at_call 17; refine (HPA.out _ (bthen HB9.out hb10)).mono ?_; rintro e w11 ⟨⟨m, ma, mc, ja, jc⟩, hqm, hqp, rfl, hb11⟩; have HQM := Lib.hid (show m = inAB n A from hqm); clear hqm)
  have hB11 := Blk.new w11 25 #[.int .i64 m.kind, .string m.word, .slice ma m.names.length mc, .slice ja m.items.length jc]
  have hb12 := below_al (o := .cells #[.int .i64 m.kind, .string m.word, .slice ma m.names.length mc, .slice ja m.items.length jc] 25) (Below.refl w11.heap.size w11)
  have hq12 := hqp.call hb12
  have HB12 := Lib.hid (bthen HB9.out (bthen hb10 (bthen hb11 hb12)))
  generalize w11.alloc (.cells #[.int .i64 m.kind, .string m.word, .slice ma m.names.length mc, .slice ja m.items.length jc] 25) = w12 at *
  obtain ⟨g11, hg11⟩ : ∃ g, w11.heap.size = g := ⟨_, rfl⟩
  rw [hg11] at hB11 ⊢
  have hqm := HQM.out
  have HGT := Lib.hid (show Calls Tryd.prog 27 #[.agg #[.int .i64 m.kind, .string m.word, .slice ma m.names.length mc, .slice ja m.items.length jc], .string ⟨#[98]⟩, .int .i64 1] w12 (fun e w' => Below w12.heap.size w12 w' ∧ ∃ r : NdAt, r.n = wdN A ∧ e = .returned (.tuple #[.agg (nCells r), .int .i64 0])) from by
    subst hqm
    refine (getOk_any ⟨inAB n A, ma, mc, ja, jc⟩ w12 hq12 ⟨#[98]⟩ 1 1 rfl rfl (by show 1 < 2; omega) (show keyIB [nmA, nmB] ⟨#[98]⟩ = some 1 from by decide +kernel) rfl).mono ?_
    rintro e w' ⟨h1, r, h2, _, h4⟩
    exact ⟨h1, r, h2, h4⟩)
  obtain ⟨c0, c1, c2, c3⟩ := hB11.cells4
  clear hg11 hqp hb10 hb11 hb12 hq12 HPR HPA hB9 f0 f1 f2 f3 hqm
  go_upto_region 16 with (go_at_call 27; refine HGT.out.mono ?_; rintro e w13 ⟨hb13, ⟨r, ra, rc, qa, qc⟩, hrn, rfl⟩; have HRN := Lib.hid (show r = wdN A from hrn); clear hrn)
  have hB14 := Blk.new w13 25 #[.int .i64 r.kind, .string r.word, .slice ra r.names.length rc, .slice qa r.items.length qc]
  have hb14 := below_al (o := .cells #[.int .i64 r.kind, .string r.word, .slice ra r.names.length rc, .slice qa r.items.length qc] 25) (Below.refl w13.heap.size w13)
  have HB14 := Lib.hid (bthen HB12.out (bthen hb13 hb14))
  generalize w13.alloc (.cells #[.int .i64 r.kind, .string r.word, .slice ra r.names.length rc, .slice qa r.items.length qc] 25) = w14 at *
  have e1 := hB14.cell 1
  have haa : (r.word.toList == A.toList) = true := by rw [HRN.out]; simp [wdN, Nd.word]
  clear hb13 hb14 HGT
  go_wp2_with (go_at_call 25; refine (HPX.out _).mono ?_; rintro e w15 ⟨rfl, rfl⟩)
  go_ret
  exact ⟨rfl, HB14.out⟩
end Go.Proofs.YtolbhhokpelchaaDoor
