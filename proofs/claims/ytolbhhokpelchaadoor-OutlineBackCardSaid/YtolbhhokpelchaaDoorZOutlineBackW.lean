/- The walk of the statement OutlineBack: what is printed is parsed; what is parsed of any text in which no line is left out, printed, is the text. -/
import Derived.Test.YtolbhhokpelchaaDoorMg7
import Derived.Test.YtolbhhokpelchaaDoorLikN
import Derived.Test.YtolbhhokpelchaaDoorZOtlL
import Derived.Test.YtolbhhokpelchaaDoorMg6
import Derived.Deep.CutBlock
import Derived.IntWalk
namespace Go.Proofs.YtolbhhokpelchaaDoor
open Go.RowKit

set_option maxHeartbeats 12800000 in
set_option maxRecDepth 100000 in
theorem outlineBack_walk {w : World} (q : NdAt) (hq : q.ok w) (a : ByteArray) (_ha : a.size ≤ maxLen) (hm : MaxC w) :
    Calls Tryd.prog 4 #[.agg (nCells q), .string a] w (BoolW true w) := by
  have HA := Lib.hid (fun W (h : Below w.heap.size w W) => alive_any W (hm.call h))
  have HM := Lib.hid (fun W (h : Below w.heap.size w W) => many_any hq W 300 h (by omega))
  have HQ := Lib.hid (fun W (h : Below w.heap.size w W) => hq.call h)
  have HMC := Lib.hid hm
  have hm1 : ∀ W (t : TypeId) (ts : Array TypeId), (Builtin.min_ ts t #[.int .i64 (a.size : Int), .int .i64 8200]).run Tryd.prog W = .ok (.int .i64 ((min a.size 8200 : Nat) : Int)) W := fun W t ts => run_minN W ts t a.size 8200
  have hs1 := fun W => run_cutN (P := Tryd.prog) W 9 8200 a Tryd.underlying9
  have l1 := cutN_size 8200 a
  generalize cutN 8200 a = S at *
  generalize min a.size 8200 = m1 at *
  have HPX := Lib.hid (fun h : printE q.n = 0 => printS_parse h)
  have HPW := Lib.hid (fun W (h : Below w.heap.size w W) => oPrint_any q W (hq.call h))
  have hb := below_al (o := .cells (nCells q) 25) (Below.refl w.heap.size w)
  have hB := Blk.new w 25 (nCells q)
  have HS := Lib.hid l1
  clear hm hq l1
  obtain ⟨n, na, nc, ia, ic⟩ := q
  simp only [nCells] at *
  go_enter Tryd.func4, Tryd.ntmps4
  go_upto_region 1 with fail
  have HB0 := Lib.hid hb
  generalize w.alloc (.cells #[.int .i64 n.kind, .string n.word, .slice na n.names.length nc, .slice ia n.items.length ic] 25) = wx at *
  obtain ⟨g2, hg2⟩ : ∃ g, w.heap.size = g := ⟨_, rfl⟩
  have HG2 := Lib.hid hg2
  rw [hg2] at hB ⊢
  clear hg2 hb
  obtain ⟨c0, c1, c2, c3⟩ := hB.cells4
  go_upto_region 4 with (first
    | (go_at_call 9; refine (HM.out _ HB0.out).mono ?_; rintro e w1 ⟨z, rfl, hz1, hz2, hz3, hb1⟩; have HB1 := Lib.hid (bthen HB0.out hb1); have hB1 := hB.call hb1; obtain ⟨d0, d1, d2, d3⟩ := hB1.cells4)
    | (go_at_call 10; refine (HA.out _ HB1.out).mono ?_; rintro e w2 ⟨rfl, hb2⟩))
  · go_ret
    exact ⟨rfl, bthen HB1.out hb2⟩
  have HPR := Lib.hid (show Calls Tryd.prog 11 #[.agg #[.int .i64 n.kind, .string n.word, .slice na n.names.length nc, .slice ia n.items.length ic]] w1 (fun e w' => e = .returned (.tuple #[.string (printS n), .int .i64 (printE n)]) ∧ Below w1.heap.size w1 w') from HPW.out w1 HB1.out)
  obtain ⟨E1, hE1⟩ : ∃ E, printE n = E := ⟨_, rfl⟩
  obtain ⟨S1, hS1⟩ : ∃ S, printS n = S := ⟨_, rfl⟩
  try dsimp only at HPX
  rw [hE1, hS1] at HPR HPX
  clear hE1 hS1 hz1 hz2 hz3 hm1 hs1 c0 c1 c2 c3 hB
  go_upto_if 32 with (go_at_call 11; refine HPR.out.mono ?_; rintro e w3 ⟨rfl, hb3⟩)
  have HB3 := Lib.hid (bthen HB1.out hb3)
  have hB3 := hB1.call hb3
  clear hb3 hB1 HPR d0 d1 d2 d3
  go_cut [] (fun wy => Below w3.heap.size w3 wy)
  case first =>
    by_cases h1 : E1 = 0
    case neg =>
      have e0 : (E1 == 0) = false := beq_eq_false_iff_ne.2 h1
      clear h1
      go_wp2_with fail
      go_meet
      exact Below.refl _ _
    case pos =>
    subst h1
    have hpp := HPX.out rfl
    have HPA := Lib.hid (show ∀ W, Below w.heap.size w W → Calls Tryd.prog 17 #[.string S1] W fun e w' => ∃ q : NdAt, q.n = n ∧ q.ok w' ∧ e = .returned (.tuple #[.agg (nCells q), .int .i64 0, .int .i64 0]) ∧ Below W.heap.size W w' from fun W h => (oParse_any S1 W (HMC.out.call h)).mono fun e w' ⟨h1, q, h2, h3, h4⟩ => by
      rw [hpp] at h2 h4
      exact ⟨q, h2, h3, h4, h1⟩)
    clear hpp HPX
    go_upto_region 7 with (go_at_call 17; refine (HPA.out _ HB3.out).mono ?_; rintro e w4 ⟨⟨m, ma, mc, ja, jc⟩, hqm, hqp, rfl, hb4⟩; have HQM := Lib.hid (show m = n from hqm); clear hqm)
    have hB5 := Blk.new w4 25 #[.int .i64 m.kind, .string m.word, .slice ma m.names.length mc, .slice ja m.items.length jc]
    have hb5 := below_al (o := .cells #[.int .i64 m.kind, .string m.word, .slice ma m.names.length mc, .slice ja m.items.length jc] 25) (Below.refl w4.heap.size w4)
    have hq5 := hqp.call hb5
    have HB5 := Lib.hid (bthen HB3.out (bthen hb4 hb5))
    have HB35 := Lib.hid (bthen hb4 hb5)
    have hB3' := hB3.call (bthen hb4 hb5)
    generalize w4.alloc (.cells #[.int .i64 m.kind, .string m.word, .slice ma m.names.length mc, .slice ja m.items.length jc] 25) = w5 at *
    obtain ⟨g7, hg7⟩ : ∃ g, w4.heap.size = g := ⟨_, rfl⟩
    rw [hg7] at hB5 ⊢
    have HLK := Lib.hid (show Calls Tryd.prog 15 #[.agg #[.int .i64 n.kind, .string n.word, .slice na n.names.length nc, .slice ia n.items.length ic], .agg #[.int .i64 m.kind, .string m.word, .slice ma m.names.length mc, .slice ja m.items.length jc]] w5 (BoolW true w5) from by
      have := rLikeN_any (HQ.out w5 HB5.out) ⟨m, ma, mc, ja, jc⟩ w5 hq5 (Below.refl _ _)
      rw [likeN_yes HQM.out.symm] at this
      exact this)
    obtain ⟨c0, c1, c2, c3⟩ := hB3'.cells4
    obtain ⟨x0, x1, x2, x3⟩ := hB5.cells4
    clear hg7 hqp hb4 hb5 hq5 HPA
    go_wp2_with (go_at_call 15; refine HLK.out.mono ?_; rintro e w6 ⟨rfl, hb6⟩)
    go_meet
    exact bthen HB35.out hb6
  case rest =>
  have HBC := Lib.hid (bthen HB3.out hcut)
  clear hB3 HB3 hcut HPX HPW HQ HM
  have hPA := fun W (h : Below w.heap.size w W) => oParse_any S W (HMC.out.call h)
  unfold ParseP at hPA
  obtain ⟨r, hr⟩ : ∃ r, parseN S.data.toList = r := ⟨_, rfl⟩
  obtain ⟨N, EV, AT⟩ := r
  rw [hr] at hPA
  simp only at hPA
  have HPA := Lib.hid (show ∀ W, Below w.heap.size w W → Calls Tryd.prog 17 #[.string S] W fun e w' => ∃ q : NdAt, q.n = N ∧ q.ok w' ∧ e = .returned (.tuple #[.agg (nCells q), .int .i64 EV, .int .i64 AT]) ∧ Below W.heap.size W w' from fun W h => (hPA W h).mono fun e w' ⟨h1, q, h2, h3, h4⟩ => ⟨q, h2, h3, h4, h1⟩)
  have HR := Lib.hid hr
  clear hPA hr
  go_upto_region 10 with (go_at_call 17; refine (HPA.out _ HBC.out).mono ?_; rintro e w7 ⟨⟨m, ma, mc, ja, jc⟩, hqm, hqp, rfl, hb7⟩; have HQM := Lib.hid (show m = N from hqm); clear hqm)
  have hB8 := Blk.new w7 25 #[.int .i64 m.kind, .string m.word, .slice ma m.names.length mc, .slice ja m.items.length jc]
  have hb8 := below_al (o := .cells #[.int .i64 m.kind, .string m.word, .slice ma m.names.length mc, .slice ja m.items.length jc] 25) (Below.refl w7.heap.size w7)
  have hq8 := hqp.call hb8
  have HB8 := Lib.hid (bthen HBC.out (bthen hb7 hb8))
  generalize w7.alloc (.cells #[.int .i64 m.kind, .string m.word, .slice ma m.names.length mc, .slice ja m.items.length jc] 25) = w8 at *
  obtain ⟨g10, hg10⟩ : ∃ g, w7.heap.size = g := ⟨_, rfl⟩
  rw [hg10] at hB8 ⊢
  clear hg10 hqp hb7 hb8 HPA HBC
  by_cases hev : EV = 0
  case neg =>
    have e0 : (EV != 0) = true := bne_iff_ne.2 hev
    have hk0 : m.kind = 0 := by
      have h := parse_none (s := S.data.toList) (by rw [HR.out]; exact hev)
      rw [HR.out] at h
      rw [HQM.out]
      show N.kind = 0
      have h2 : N = noNd := h
      rw [h2]
      rfl
    have ek : (m.kind == 0) = true := by rw [hk0]; rfl
    clear hev hk0
    go_wp2_with (go_at_call 10; refine (HA.out _ HB8.out).mono ?_; rintro e w9 ⟨rfl, hb9⟩; obtain ⟨x0, x1, x2, x3⟩ := (hB8.call hb9).cells4)
    go_ret
    exact ⟨rfl, bthen HB8.out hb9⟩
  case pos =>
  subst hev
  obtain ⟨b1, b2, rows, b3, b4, b5, J, b6, b7, b8⟩ := back_facts S N AT HR.out
  rw [← HQM.out] at b1 b2 b8
  have hPR := oPrint_any _ _ hq8
  unfold PrintP at hPR
  try dsimp only at hPR
  rw [b2] at hPR
  have HRG := Lib.hid (fun W (h : Below w8.heap.size w8 W) => oRight_any _ W (hq8.call h))
  try dsimp only at HRG
  rw [b1] at HRG
  obtain ⟨T, hT⟩ : ∃ S, printS m = S := ⟨_, rfl⟩
  rw [hT] at hPR b8
  have HPR := Lib.hid hPR
  obtain ⟨R, hR⟩ : ∃ R, bytesA (Lib.trimSuffix S.data.toList [10]) = R := ⟨_, rfl⟩
  have hS8 := HS.out
  have HTS := Lib.hid (show ∀ W, Calls Tryd.prog 19 #[.string S, .string ⟨#[10]⟩] W (fun e w' => e = .returned (.string R) ∧ W = w') from fun W => by
    rw [← hR]
    exact trimSuf_any S ⟨#[10]⟩ W (by unfold maxLen; omega))
  have hRs : R.size ≤ 8200 := by
    rw [← hR, bytesA_size]
    have := trimSuf_len S.data.toList [10]
    rw [lenB] at this
    omega
  rw [hR] at b3
  have HSQ := Lib.hid (show ∀ W, Below w.heap.size w W → Calls Tryd.prog 18 #[.string R, .string ⟨#[10]⟩] W fun e w' => ∃ b off, e = .returned (.slice (some ⟨b, off, none⟩) rows.length rows.length) ∧ HasStrs w' (some ⟨b, off, none⟩) rows.length rows ∧ Below W.heap.size W w' from fun W h => by
    have := split_any R W (HMC.out.call h) (by omega)
    rw [b3] at this
    refine this.mono fun e w' ⟨h1, h2⟩ => ?_
    refine ⟨W.heap.size, 0, h1, ?_, ?_⟩
    · rw [← h2]
      exact hasStrs_row W rows _ (fun x hx => Nat.le_trans (b4 x hx) (by decide)) (Nat.le_trans b5 (by decide))
    · rw [← h2]
      exact (Below.refl _ _).alloc (Nat.le_refl _) _)
  have HB4 := Lib.hid b4
  have HB7 := Lib.hid b7
  have HE := Lib.hid b8
  clear b1 b2 b3 b4 b7 b8 hPR hT hR hRs HR HQM hq8 hS8
  obtain ⟨x0, x1, x2, x3⟩ := hB8.cells4
  go_upto_region 15 with (first
    | (go_at_call 11; refine HPR.out.mono ?_; rintro e w9 ⟨rfl, hb9⟩; obtain ⟨y0, y1, y2, y3⟩ := (hB8.call hb9).cells4)
    | (go_at_call 12; refine (HRG.out _ hb9).mono ?_; rintro e w10 ⟨rfl, hb10⟩)
    | (go_at_call 10; refine (HA.out _ (bthen HB8.out (bthen hb9 hb10))).mono ?_; rintro e w11 ⟨rfl, hb11⟩))
  have HB11 := Lib.hid (bthen HB8.out (bthen hb9 (bthen hb10 hb11)))
  clear x0 x1 x2 x3 y0 y1 y2 y3 hb9 hb10 hb11 HPR HRG hB8 HB8
  go_wp2_with (first
    | (go_at_call 19; refine (HTS.out _).mono ?_; rintro e wt ⟨rfl, rfl⟩)
    | (go_at_call 18; refine (HSQ.out _ HB11.out).mono ?_; rintro e w12 ⟨b, off, rfl, hrow, hb12⟩))
  have HB12 := Lib.hid (bthen HB11.out hb12)
  have HROW := Lib.hid hrow
  clear hb12 hrow HB11 HTS HSQ
  go_loopg [81, 16] rows.length (fun gg iv _ wr => ∃ k : Nat, k + gg = rows.length ∧ k ≤ J ∧ iv = .int .i64 k ∧ Below w12.heap.size w12 wr)
  case atStart => exact ⟨0, by omega, Nat.zero_le _, rfl, Below.refl _ _⟩
  case round =>
    obtain ⟨k, hkg, hkJ, rfl, hbr⟩ := hrel
    cases gk with
    | zero =>
      obtain rfl : k = rows.length := by omega
      obtain ⟨_, hTS⟩ : J = rows.length ∧ T = S := by
        rcases HE.out with h | ⟨h, _, _⟩
        · exact h
        · omega
      have hts : (T.toList == S.toList) = true := by rw [hTS]; simp
      clear hTS
      go_wp2_with fail
      go_ret
      exact ⟨rfl, bthen HB12.out hbr⟩
    | succ gg =>
      have hkl : k < rows.length := by omega
      have hcell := (HROW.out.call hbr).atN k hkl
      have hsz := HB4.out rows[k] (List.getElem_mem hkl)
      have hbl := fun W => rBlankN_any rows[k] W (by unfold maxLen; omega)
      have hcc : k = J → blankN rows[k].data.toList = true ∧ T.size < S.size := fun e => by
        rcases HE.out with ⟨h, _⟩ | ⟨_, h1, h2⟩
        · omega
        · subst e; exact ⟨h1, h2⟩
      have hcd : k ≠ J → blankN rows[k].data.toList = false := fun e => HB7.out k hkl (by omega)
      obtain ⟨BL, hBL⟩ : ∃ B, blankN rows[k].data.toList = B := ⟨_, rfl⟩
      rw [hBL] at hbl hcc hcd
      have HBL := Lib.hid hbl
      have HBR := Lib.hid hbr
      generalize rows[k] = row at *
      clear hBL hbl hbr hsz
      by_cases hkJ2 : k = J
      · obtain ⟨rfl, hlt⟩ := hcc hkJ2
        have dl : decide ((T.size : Int) < (S.size : Int)) = true := decide_eq_true (by omega)
        have dl2 : decide (T.size < S.size) = true := decide_eq_true hlt
        clear hcc hcd hkJ2 hkJ hlt
        go_wp2_with (go_at_call 20; refine (HBL.out _).mono ?_; rintro e w13 ⟨rfl, rfl⟩)
        go_ret
        exact ⟨rfl, bthen HB12.out HBR.out⟩
      · obtain rfl := hcd hkJ2
        clear hcc hcd
        go_wp2_with (go_at_call 20; refine (HBL.out _).mono ?_; rintro e w13 ⟨rfl, rfl⟩)
        go_roundg gg
        case measure => omega
        case rel => exact ⟨k + 1, by omega, by omega, by go_num, HBR.out⟩
end Go.Proofs.YtolbhhokpelchaaDoor
