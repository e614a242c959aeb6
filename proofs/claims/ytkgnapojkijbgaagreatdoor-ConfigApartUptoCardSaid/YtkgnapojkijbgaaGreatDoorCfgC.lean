/- The contracts of config.rightInhibit, and of config.rightAll of inhibits. -/
import Derived.Test.YtkgnapojkijbgaaGreatDoorCfgB
namespace Go.Proofs.YtkgnapojkijbgaaGreatDoor
open Go.RowKit

set_option maxHeartbeats 3200000 in
set_option maxRecDepth 100000 in
theorem cfgEq_any (a : Option Addr) (c : Nat) (bs : List ByteArray) (w : World) (h : HasStrs w a c bs) (hn : bs.length ≤ 1048576) : Calls Tryz.prog 113 #[.slice a bs.length c] w (BoolB (rightC (byLabs bs)) w) := by
  obtain ⟨i0, hi, hz0, hz1, hz2⟩ := info_partsL Tryz.infoL
  have hsl : ∀ l ∈ byLabs bs, l.1.size ≤ maxLen ∧ l.2.size ≤ maxLen := fun l hl => by
    obtain ⟨b, hb, rfl⟩ := List.mem_map.1 hl
    exact ⟨h.2.2.1 b hb, by show (1 : Nat) ≤ maxLen; unfold maxLen; omega⟩
  obtain ⟨h1, h2, h3, h4⟩ := h
  unfold maxLen at h2
  rcases h4 with rfl | ⟨b, off, rfl, hb, hc⟩
  · have hR : rightC (byLabs []) = true := by decide
    rw [hR]
    have hq := right_any none 0 [] w (HasLabs.nil w none 0 (by unfold maxLen; omega))
    rw [show rightC [] = true by decide] at hq
    simp only [List.length_nil] at *
    have HQ := Lib.hid hq
    clear hq hR
    go_enter Tryz.func113, Tryz.ntmps113
    go_wp2_with fail
    refine wp_loop_rounds 1 ?_
    rw [rounds_succ]
    go_wp2_with (go_at_call 164; refine HQ.out.mono ?_; rintro e w2 ⟨rfl, hb2⟩)
    go_ret
    exact ⟨rfl, hb2⟩
  · have HC := Lib.hid hc
    have HS := Lib.hid hsl
    clear hc h3 hsl
    go_enter Tryz.func113, Tryz.ntmps113
    go_wp2_with fail
    go_loopg [8, 3, 5] bs.length (fun gg iv v _ wr => ∃ k : Nat, k + gg = bs.length ∧ iv = .int .i64 (k : Int) ∧ OwnL 152 wr w.heap.size v (byLabs (bs.take k)) ∧ Below w.heap.size w wr ∧ w.heap.size ≤ wr.heap.size)
    case atStart => exact ⟨0, by omega, rfl, OwnL.nil _ _ _, Below.refl _ _, Nat.le_refl _⟩
    case round =>
      obtain ⟨k, hkg, rfl, hown, hbl, hzl⟩ := hrel
      cases gk with
      | zero =>
        obtain rfl : k = bs.length := by omega
        rw [List.take_length] at hown
        obtain ⟨a', c', rfl, hh⟩ := hown.labs HS.out
        have hq := right_any a' c' (byLabs bs) wr hh
        have hbl2 := hbl
        generalize byLabs bs = L at *
        have HQ := Lib.hid hq
        have HBL := Lib.hid hbl2
        clear hq hown hh hbl hbl2 HS
        go_wp2_with (go_at_call 164; refine HQ.out.mono ?_; rintro e w2 ⟨rfl, hb2⟩)
        go_ret
        exact ⟨rfl, bthen HBL.out hb2⟩
      | succ gg =>
        have hkl : k < bs.length := by omega
        have c0 := cellL hbl (HC.out k hkl)
        have hts : byLabs (bs.take (k + 1)) = byLabs (bs.take k) ++ [(bs[k], ⟨#[118]⟩)] := by
          unfold byLabs
          rw [List.take_succ_eq_append_getElem hkl, List.map_append]; rfl
        have hll : (byLabs (bs.take k)).length ≤ 2000000 := by unfold byLabs; simp; omega
        have HTS := Lib.hid hts
        generalize byLabs (bs.take k) = M at *
        generalize bs[k] = s at *
        clear hts HS
        go_wp2_with (refine wpList_pushL2 wr (by rfl) (.tmp 12) (.tmp 15) 42 (by rfl) w.heap.size 152 i0 (.agg #[.string ⟨#[]⟩, .string ⟨#[]⟩]) Tryz.underlying42 hi hz0 hz1 hz2 rfl _ M (s, ⟨#[118]⟩) (by rfl) hown [.string s, .string ⟨#[118]⟩] rfl (by rfl) hll hzl ?_; intro v2 w2 hown2 hg2)
        have hb2 := hown.grown hbl hzl hg2
        have hz2' := Nat.le_trans hzl hg2.size
        go_roundg gg
        case measure => omega
        case rel => exact ⟨k + 1, by omega, by go_num, by rw [HTS.out]; exact hown2, hb2, hz2'⟩

set_option maxHeartbeats 1600000 in
set_option maxRecDepth 100000 in
theorem cfgMatch_any (a : Option Addr) (c : Nat) (ms : List Mat) (w : World) (h : HasMats w a c ms) : Calls Tryz.prog 112 #[.slice a ms.length c] w (BoolB (sideC ms) w) := by
  have hq := allM_any a c ms 8 w h
  rw [show (((8 : Nat) : Int)) = 8 from rfl] at hq
  unfold sideC matchC
  generalize (decide (ms.length ≤ 8) && ms.all rightM) = R at *
  have HQ := Lib.hid hq
  clear hq h
  by_cases h0 : 0 < ms.length
  · rw [decide_eq_true h0]
    have d0 : decide ((0 : Int) < (ms.length : Int)) = true := decide_eq_true (by omega)
    have d1 : decide (0 < ms.length) = true := decide_eq_true h0
    clear h0
    go_enter Tryz.func112, Tryz.ntmps112
    go_wp2_with (go_at_call 169; refine HQ.out.mono ?_; rintro e w2 ⟨rfl, hb2⟩)
    go_ret
    exact ⟨rfl, hb2⟩
  · rw [decide_eq_false h0]
    have d0 : decide ((0 : Int) < (ms.length : Int)) = false := decide_eq_false (by omega)
    have d1 : decide (0 < ms.length) = false := decide_eq_false h0
    clear h0
    go_enter Tryz.func112, Tryz.ntmps112
    go_wp2_with fail
    go_ret
    exact ⟨rfl, Below.refl _ _⟩
set_option maxHeartbeats 1600000 in
set_option maxRecDepth 100000 in
theorem cfgInh_any (x : InA) (w : World) (h : InA.ok w x) : Calls Tryz.prog 57 #[.agg #[.slice x.sa x.s.length x.sc, .slice x.ta x.t.length x.tc, .slice x.ea x.e.length x.ec]] w (BoolB (x.good) w) := by
  have hb := (Below.refl w.heap.size w).alloc (Nat.le_refl _) (.cells #[.slice x.sa x.s.length x.sc, .slice x.ta x.t.length x.tc, .slice x.ea x.e.length x.ec] 48)
  have hB := Blk.new w 48 #[.slice x.sa x.s.length x.sc, .slice x.ta x.t.length x.tc, .slice x.ea x.e.length x.ec]
  have hs := fun W (hW : Below w.heap.size w W) => cfgMatch_any x.sa x.sc x.s W (h.1.call hW)
  have ht := fun W (hW : Below w.heap.size w W) => cfgMatch_any x.ta x.tc x.t W (h.2.1.call hW)
  have he := fun W (hW : Below w.heap.size w W) => cfgEq_any x.ea x.ec x.e W (h.2.2.1.call hW) h.2.2.2
  have hR : x.good = (sideC x.s && (sideC x.t && rightC (byLabs x.e))) := rfl
  rw [hR]
  generalize sideC x.s = B1 at *
  generalize sideC x.t = B2 at *
  generalize rightC (byLabs x.e) = B3 at *
  have HS := Lib.hid hs
  have HT := Lib.hid ht
  have HE := Lib.hid he
  have HB := Lib.hid hb
  clear hs ht he hb h hR
  obtain ⟨s, t, e, sa, sc, ta, tc, ea, ec⟩ := x
  simp only at *
  go_enter Tryz.func57, Tryz.ntmps57
  go_upto_region 1 with fail
  generalize w.alloc (.cells #[.slice sa s.length sc, .slice ta t.length tc, .slice ea e.length ec] 48) = wx at *
  obtain ⟨c0, c1, c2⟩ := hB.cells3
  cases B1
  case false =>
    go_wp2_with (go_at_call 112; (with_reducible refine (HS.out _ HB.out).mono ?_); rintro e w2 ⟨rfl, hb2⟩)
    go_ret
    exact ⟨rfl, bthen HB.out hb2⟩
  cases B2
  case false =>
    go_wp2_with (first
      | (go_at_call 112; (with_reducible refine (HS.out _ HB.out).mono ?_); rintro e w2 ⟨rfl, hb2⟩; obtain ⟨d0, d1, d2⟩ := (hB.call hb2).cells3)
      | (go_at_call 112; (with_reducible refine (HT.out _ (bthen HB.out hb2)).mono ?_); rintro e w3 ⟨rfl, hb3⟩))
    go_ret
    exact ⟨rfl, bthen HB.out (bthen hb2 hb3)⟩
  go_wp2_with (first
    | (go_at_call 112; (with_reducible refine (HS.out _ HB.out).mono ?_); rintro e w2 ⟨rfl, hb2⟩; obtain ⟨d0, d1, d2⟩ := (hB.call hb2).cells3)
    | (go_at_call 112; (with_reducible refine (HT.out _ (bthen HB.out hb2)).mono ?_); rintro e w3 ⟨rfl, hb3⟩; obtain ⟨f0, f1, f2⟩ := ((hB.call hb2).call hb3).cells3)
    | (go_at_call 113; (with_reducible refine (HE.out _ (bthen HB.out (bthen hb2 hb3))).mono ?_); rintro e w4 ⟨rfl, hb4⟩))
  go_ret
  exact ⟨by simp, bthen HB.out (bthen hb2 (bthen hb3 hb4))⟩
set_option maxHeartbeats 1600000 in
set_option maxRecDepth 100000 in
theorem negI_any (x : InA) (g : Nat) (w : World) (hg : Blk w g 70 #[.func (.func 57) #[] #[]]) (hx : InA.ok w x) : Calls Tryz.prog 110 #[.agg #[.slice x.sa x.s.length x.sc, .slice x.ta x.t.length x.tc, .slice x.ea x.e.length x.ec], .pointer (some ⟨g, 0, none⟩)] w (BoolB (!InA.good x) w) := by
  have hb := (Below.refl w.heap.size w).alloc (Nat.le_refl _) (.cells #[.slice x.sa x.s.length x.sc, .slice x.ta x.t.length x.tc, .slice x.ea x.e.length x.ec] 48)
  have hB := Blk.new w 48 #[.slice x.sa x.s.length x.sc, .slice x.ta x.t.length x.tc, .slice x.ea x.e.length x.ec]
  have hr : Calls Tryz.prog 57 #[.agg #[.slice x.sa x.s.length x.sc, .slice x.ta x.t.length x.tc, .slice x.ea x.e.length x.ec]] (w.alloc (.cells #[.slice x.sa x.s.length x.sc, .slice x.ta x.t.length x.tc, .slice x.ea x.e.length x.ec] 48)) (fun e w1 => e = .returned (.bool (InA.good x)) ∧ Below (w.alloc (.cells #[.slice x.sa x.s.length x.sc, .slice x.ta x.t.length x.tc, .slice x.ea x.e.length x.ec] 48)).heap.size (w.alloc (.cells #[.slice x.sa x.s.length x.sc, .slice x.ta x.t.length x.tc, .slice x.ea x.e.length x.ec] 48)) w1) := by
    refine (show Calls Tryz.prog 57 #[.agg #[.slice x.sa x.s.length x.sc, .slice x.ta x.t.length x.tc, .slice x.ea x.e.length x.ec]] (w.alloc (.cells #[.slice x.sa x.s.length x.sc, .slice x.ta x.t.length x.tc, .slice x.ea x.e.length x.ec] 48)) (BoolB (InA.good x) (w.alloc (.cells #[.slice x.sa x.s.length x.sc, .slice x.ta x.t.length x.tc, .slice x.ea x.e.length x.ec] 48))) from ?_).mono fun e w1 h => ?_
    · have hx := InA.ok.call hx hb
      generalize w.alloc (.cells #[.slice x.sa x.s.length x.sc, .slice x.ta x.t.length x.tc, .slice x.ea x.e.length x.ec] 48) = W at *
      exact cfgInh_any x W hx
    · exact h
  have hg1 := (hg.call hb).cell 0
  have c0 := hB.cell 0
  have c1 := hB.cell 1
  have c2 := hB.cell 2
  generalize InA.good x = X at *
  have HB := Lib.hid hb
  have HR := Lib.hid hr
  clear hb hr hx hg hB
  go_enter Tryz.func110, Tryz.ntmps110
  go_upto_region 1 with fail
  generalize w.alloc (.cells #[.slice x.sa x.s.length x.sc, .slice x.ta x.t.length x.tc, .slice x.ea x.e.length x.ec] 48) = wx at *
  go_wp2_with (go_at_call 57; refine HR.out.mono ?_; rintro e w2 ⟨rfl, hb2⟩)
  go_ret
  exact ⟨rfl, bthen HB.out hb2⟩
set_option maxHeartbeats 3200000 in
set_option maxRecDepth 100000 in
theorem idxI_any (a : Option Addr) (c : Nat) (xs : List InA) (g : Nat) (w : World) (h : HasInhs w a c xs) (hg : Blk w g 70 #[.func (.func 57) #[] #[]]) :
    Calls Tryz.prog 168 #[.slice a xs.length c, .func (.func 110) #[] #[.pointer (some ⟨g, 0, none⟩)]] w (IdxW (xs.all InA.good) w) := by
  obtain ⟨J, hJ, hgood, hend⟩ := all_end InA.good xs
  obtain ⟨R, hR⟩ : ∃ R, xs.all InA.good = R := ⟨_, rfl⟩
  rw [hR] at hend ⊢
  have HG := Lib.hid hgood
  have HE := Lib.hid hend
  have HH := Lib.hid h
  have HB := Lib.hid hg
  have h1 := h.1
  have h2 := h.2.1
  unfold maxLen at h2
  clear hgood hend hR h hg
  go_enter Tryz.func168, Tryz.ntmps168
  go_wp2_with fail
  go_loopg [8, 5] xs.length (fun gg iv _ wr => ∃ k : Nat, k + gg = xs.length ∧ k ≤ J ∧ iv = .int .i64 (k : Int) ∧ Below w.heap.size w wr)
  case atStart => exact ⟨0, by omega, Nat.zero_le _, rfl, Below.refl _ _⟩
  case round =>
    obtain ⟨k, hkg, hkJ, rfl, hbr⟩ := hrel
    cases gk with
    | zero =>
      obtain rfl : k = xs.length := by omega
      obtain rfl : R = true := by
        rcases HE.out with ⟨_, e⟩ | ⟨hj, _⟩
        · exact e
        · omega
      have HBR := Lib.hid hbr
      clear hbr
      go_wp2_with fail
      go_ret
      exact ⟨-1, rfl, rfl, HBR.out⟩
    | succ gg =>
      have hkl : k < xs.length := by omega
      obtain ⟨b, off, rfl, _, hc⟩ := HasRow.place HH.out k hkl
      have hx := HH.out.2.2.1 _ (List.getElem_mem hkl)
      have hq := negI_any xs[k] g wr (HB.out.call hbr) (InA.ok.call hx hbr)
      have e0 := cellL hbr (hc 0 _ rfl)
      have e1 := cellL hbr (hc 1 _ rfl)
      have e2 := cellL hbr (hc 2 _ rfl)
      rw [Nat.add_zero] at e0
      clear hc hx
      have hgk : k < J → InA.good xs[k] = true := fun h => HG.out k h hkl
      have hjk : k = J → InA.good xs[k] = false ∧ R = false := fun h => by
        rcases HE.out with ⟨e, _⟩ | ⟨hj, e, e2⟩
        · omega
        · subst h; exact ⟨e, e2⟩
      generalize xs[k] = x at *
      have HQ := Lib.hid hq
      have HBR := Lib.hid hbr
      clear hbr hq
      by_cases hk : k < J
      · rw [hgk hk] at HQ
        clear hgk hjk
        go_wp2_with (go_at_call 110; refine HQ.out.mono ?_; rintro e w2 ⟨rfl, hb2⟩)
        go_roundg gg
        case measure => omega
        case rel => exact ⟨k + 1, by omega, by omega, by go_num, bthen HBR.out hb2⟩
      · obtain ⟨e3, rfl⟩ := hjk (by omega)
        rw [e3] at HQ
        clear hgk hjk e3
        go_wp2_with (go_at_call 110; refine HQ.out.mono ?_; rintro e w2 ⟨rfl, hb2⟩)
        go_ret
        exact ⟨(k : Int), rfl, by simp, bthen HBR.out hb2⟩
theorem conI_any (a : Option Addr) (c : Nat) (xs : List InA) (g : Nat) (w : World) (h : HasInhs w a c xs) (hg : Blk w g 70 #[.func (.func 57) #[] #[]]) :
    Calls Tryz.prog 111 #[.slice a xs.length c, .func (.func 110) #[] #[.pointer (some ⟨g, 0, none⟩)]] w (BoolB (!(xs.all InA.good)) w) := by
  have hi := idxI_any a c xs g w h hg
  generalize xs.all InA.good = R at *
  have HI := Lib.hid hi
  clear hi h hg
  go_enter Tryz.func111, Tryz.ntmps111
  go_wp2_with (go_at_call 168; refine HI.out.mono ?_; rintro e w2 ⟨n, rfl, hn, hb2⟩)
  go_ret
  exact ⟨by first | rfl | rw [hn], hb2⟩
set_option maxHeartbeats 1600000 in
set_option maxRecDepth 100000 in
theorem allI_any (a : Option Addr) (c : Nat) (xs : List InA) (m : Nat) (w : World) (h : HasInhs w a c xs) :
    Calls Tryz.prog 56 #[.slice a xs.length c, .int .i64 (m : Int), .func (.func 57) #[] #[]] w (BoolB (decide (xs.length ≤ m) && xs.all InA.good) w) := by
  have hb := (Below.refl w.heap.size w).alloc (Nat.le_refl _) (.cells #[.func (.func 57) #[] #[]] 70)
  have hB := Blk.new w 70 #[.func (.func 57) #[] #[]]
  have hq := conI_any a c xs w.heap.size _ (h.keep hb) hB
  generalize xs.all InA.good = R at *
  have HQ := Lib.hid hq
  have HB := Lib.hid hb
  clear hq hb hB h
  by_cases h8 : xs.length ≤ m
  · rw [decide_eq_true h8]
    have d8 : decide ((xs.length : Int) ≤ (m : Int)) = true := decide_eq_true (by omega)
    have d9 : decide (xs.length ≤ m) = true := decide_eq_true h8
    clear h8
    go_enter Tryz.func56, Tryz.ntmps56
    go_upto_region 1 with fail
    generalize w.alloc (.cells #[.func (.func 57) #[] #[]] 70) = wx at *
    go_wp2_with (go_at_call 111; refine HQ.out.mono ?_; rintro e w2 ⟨rfl, hb2⟩)
    go_ret
    exact ⟨by cases R <;> rfl, bthen HB.out hb2⟩
  · rw [decide_eq_false h8]
    have d8 : decide ((xs.length : Int) ≤ (m : Int)) = false := decide_eq_false (by omega)
    have d9 : decide (xs.length ≤ m) = false := decide_eq_false h8
    clear h8
    go_enter Tryz.func56, Tryz.ntmps56
    go_upto_region 1 with fail
    generalize w.alloc (.cells #[.func (.func 57) #[] #[]] 70) = wx at *
    go_wp2_with fail
    go_ret
    exact ⟨rfl, HB.out⟩
end Go.Proofs.YtkgnapojkijbgaaGreatDoor
