/- The contracts of config.rightInhibit, and of config.rightAll of inhibits. -/
import Derived.Test.YtmhekhilgllciaaGreatMg3
import Derived.Test.YtmhekhilgllciaaGreatLabM
import Derived.Test.YtmhekhilgllciaaGreatMg2
import Derived.Test.YtmhekhilgllciaaGreatInfo
import Derived.Maps.Own
import Derived.Maps.OwnSet
import Derived.StringKeys
import Derived.Test.YtmhekhilgllciaaGreatLater
import Derived.Laws.EntriesVeiled
import Derived.Deep.CutBlock
import Derived.Deep.RegionHeld3
namespace Go.Proofs.YtmhekhilgllciaaGreat
open Go.RowKit

set_option maxHeartbeats 3200000 in
set_option maxRecDepth 100000 in
theorem cfgEq_any (a : Option Addr) (c : Nat) (bs : List ByteArray) (w : World) (h : HasStrs w a c bs) (hn : bs.length ≤ 1048576) : Calls Tryz.prog 91 #[.slice a bs.length c] w (BoolB (rightC (byLabs bs)) w) := by
  obtain ⟨i0, hi, hz0, hz1, hz2⟩ := info_partsL Tryz.infoL
  have hsl : ∀ l ∈ byLabs bs, l.1.size ≤ maxLen ∧ l.2.size ≤ maxLen := fun l hl => by
    obtain ⟨b, hb, rfl⟩ := List.mem_map.1 hl
    exact ⟨h.2.2.1 b hb, by show (1 : Nat) ≤ maxLen; unfold maxLen; omega⟩
  obtain ⟨h1, h2, h3, h4⟩ := h
  unfold maxLen at h2
  rcases h4 with rfl | ⟨b, off, rfl, hb, hc⟩
  · have hR : rightC (byLabs []) = true := by decide
    rw [hR]
    have hq := right_any none 0 [] w (HasLabs.nil w none 0 (by unfold maxLen; omega))
    rw [show rightC [] = true by decide] at hq
    simp only [List.length_nil] at *
    have HQ := Lib.hid hq
    clear hq hR
    go_enter Tryz.func91, Tryz.ntmps91
    go_wp2_with fail
    refine wp_loop_rounds 1 ?_
    rw [rounds_succ]
    go_wp2_with (go_at_call 121; refine HQ.out.mono ?_; rintro e w2 ⟨rfl, hb2⟩)
    go_ret
    exact ⟨rfl, hb2⟩
  · have HC := Lib.hid hc
    have HS := Lib.hid hsl
    clear hc h3 hsl
    go_enter Tryz.func91, Tryz.ntmps91
    go_wp2_with fail
    go_loopg [8, 3, 5] bs.length (fun gg iv v _ wr => ∃ k : Nat, k + gg = bs.length ∧ iv = .int .i64 (k : Int) ∧ OwnL 124 wr w.heap.size v (byLabs (bs.take k)) ∧ Below w.heap.size w wr ∧ w.heap.size ≤ wr.heap.size)
    case atStart => exact ⟨0, by omega, rfl, OwnL.nil _ _ _, Below.refl _ _, Nat.le_refl _⟩
    case round =>
      obtain ⟨k, hkg, rfl, hown, hbl, hzl⟩ := hrel
      cases gk with
      | zero =>
        obtain rfl : k = bs.length := by omega
        rw [List.take_length] at hown
        obtain ⟨a', c', rfl, hh⟩ := hown.labs HS.out
        have hq := right_any a' c' (byLabs bs) wr hh
        have hbl2 := hbl
        generalize byLabs bs = L at *
        have HQ := Lib.hid hq
        have HBL := Lib.hid hbl2
        clear hq hown hh hbl hbl2 HS
        go_wp2_with (go_at_call 121; refine HQ.out.mono ?_; rintro e w2 ⟨rfl, hb2⟩)
        go_ret
        exact ⟨rfl, bthen HBL.out hb2⟩
      | succ gg =>
        have hkl : k < bs.length := by omega
        have c0 := cellL hbl (HC.out k hkl)
        have hts : byLabs (bs.take (k + 1)) = byLabs (bs.take k) ++ [(bs[k], ⟨#[118]⟩)] := by
          unfold byLabs
          rw [List.take_succ_eq_append_getElem hkl, List.map_append]; rfl
        have hll : (byLabs (bs.take k)).length ≤ 2000000 := by unfold byLabs; simp; omega
        have HTS := Lib.hid hts
        generalize byLabs (bs.take k) = M at *
        generalize bs[k] = s at *
        clear hts HS
        go_wp2_with (refine wpList_pushL2 wr (by rfl) (.tmp 12) (.tmp 15) 43 (by rfl) w.heap.size 124 i0 (.agg #[.string ⟨#[]⟩, .string ⟨#[]⟩]) Tryz.underlying43 hi hz0 hz1 hz2 rfl _ M (s, ⟨#[118]⟩) (by rfl) hown [.string s, .string ⟨#[118]⟩] rfl (by rfl) hll hzl ?_; intro v2 w2 hown2 hg2)
        have hb2 := hown.grown hbl hzl hg2
        have hz2' := Nat.le_trans hzl hg2.size
        go_roundg gg
        case measure => omega
        case rel => exact ⟨k + 1, by omega, by go_num, by rw [HTS.out]; exact hown2, hb2, hz2'⟩

set_option maxHeartbeats 1600000 in
set_option maxRecDepth 100000 in
theorem cfgMatch_any (a : Option Addr) (c : Nat) (ms : List Mat) (w : World) (h : HasMats w a c ms) : Calls Tryz.prog 90 #[.slice a ms.length c] w (BoolB (sideC ms) w) := by
  have hq := allM_any a c ms 8 w h
  rw [show (((8 : Nat) : Int)) = 8 from rfl] at hq
  unfold sideC matchC
  generalize (decide (ms.length ≤ 8) && ms.all rightM) = R at *
  have HQ := Lib.hid hq
  clear hq h
  by_cases h0 : 0 < ms.length
  · rw [decide_eq_true h0]
    have d0 : decide ((0 : Int) < (ms.length : Int)) = true := decide_eq_true (by omega)
    have d1 : decide (0 < ms.length) = true := decide_eq_true h0
    clear h0
    go_enter Tryz.func90, Tryz.ntmps90
    go_wp2_with (go_at_call 126; refine HQ.out.mono ?_; rintro e w2 ⟨rfl, hb2⟩)
    go_ret
    exact ⟨rfl, hb2⟩
  · rw [decide_eq_false h0]
    have d0 : decide ((0 : Int) < (ms.length : Int)) = false := decide_eq_false (by omega)
    have d1 : decide (0 < ms.length) = false := decide_eq_false h0
    clear h0
    go_enter Tryz.func90, Tryz.ntmps90
    go_wp2_with fail
    go_ret
    exact ⟨rfl, Below.refl _ _⟩
set_option maxHeartbeats 1600000 in
set_option maxRecDepth 100000 in
theorem cfgInh_any (x : InA) (w : World) (h : InA.ok w x) : Calls Tryz.prog 39 #[.agg #[.slice x.sa x.s.length x.sc, .slice x.ta x.t.length x.tc, .slice x.ea x.e.length x.ec]] w (BoolB (x.good) w) := by
  have hb := (Below.refl w.heap.size w).alloc (Nat.le_refl _) (.cells #[.slice x.sa x.s.length x.sc, .slice x.ta x.t.length x.tc, .slice x.ea x.e.length x.ec] 51)
  have hB := Blk.new w 51 #[.slice x.sa x.s.length x.sc, .slice x.ta x.t.length x.tc, .slice x.ea x.e.length x.ec]
  have hs := fun W (hW : Below w.heap.size w W) => cfgMatch_any x.sa x.sc x.s W (h.1.call hW)
  have ht := fun W (hW : Below w.heap.size w W) => cfgMatch_any x.ta x.tc x.t W (h.2.1.call hW)
  have he := fun W (hW : Below w.heap.size w W) => cfgEq_any x.ea x.ec x.e W (h.2.2.1.call hW) h.2.2.2
  have hR : x.good = (sideC x.s && (sideC x.t && rightC (byLabs x.e))) := rfl
  rw [hR]
  generalize sideC x.s = B1 at *
  generalize sideC x.t = B2 at *
  generalize rightC (byLabs x.e) = B3 at *
  have HS := Lib.hid hs
  have HT := Lib.hid ht
  have HE := Lib.hid he
  have HB := Lib.hid hb
  clear hs ht he hb h hR
  obtain ⟨s, t, e, sa, sc, ta, tc, ea, ec⟩ := x
  simp only at *
  go_enter Tryz.func39, Tryz.ntmps39
  go_upto_region 1 with fail
  generalize w.alloc (.cells #[.slice sa s.length sc, .slice ta t.length tc, .slice ea e.length ec] 51) = wx at *
  obtain ⟨c0, c1, c2⟩ := hB.cells3
  cases B1
  case false =>
    go_wp2_with (go_at_call 90; (with_reducible refine (HS.out _ HB.out).mono ?_); rintro e w2 ⟨rfl, hb2⟩)
    go_ret
    exact ⟨rfl, bthen HB.out hb2⟩
  cases B2
  case false =>
    go_wp2_with (first
      | (go_at_call 90; (with_reducible refine (HS.out _ HB.out).mono ?_); rintro e w2 ⟨rfl, hb2⟩; obtain ⟨d0, d1, d2⟩ := (hB.call hb2).cells3)
      | (go_at_call 90; (with_reducible refine (HT.out _ (bthen HB.out hb2)).mono ?_); rintro e w3 ⟨rfl, hb3⟩))
    go_ret
    exact ⟨rfl, bthen HB.out (bthen hb2 hb3)⟩
  go_wp2_with (first
    | (go_at_call 90; (with_reducible refine (HS.out _ HB.out).mono ?_); rintro e w2 ⟨rfl, hb2⟩; obtain ⟨d0, d1, d2⟩ := (hB.call hb2).cells3)
    | (go_at_call 90; (with_reducible refine (HT.out _ (bthen HB.out hb2)).mono ?_); rintro e w3 ⟨rfl, hb3⟩; obtain ⟨f0, f1, f2⟩ := ((hB.call hb2).call hb3).cells3)
    | (go_at_call 91; (with_reducible refine (HE.out _ (bthen HB.out (bthen hb2 hb3))).mono ?_); rintro e w4 ⟨rfl, hb4⟩))
  go_ret
  exact ⟨by simp, bthen HB.out (bthen hb2 (bthen hb3 hb4))⟩
set_option maxHeartbeats 1600000 in
set_option maxRecDepth 100000 in
theorem negI_any (x : InA) (g : Nat) (w : World) (hg : Blk w g 63 #[.func (.func 39) #[] #[]]) (hx : InA.ok w x) : Calls Tryz.prog 88 #[.agg #[.slice x.sa x.s.length x.sc, .slice x.ta x.t.length x.tc, .slice x.ea x.e.length x.ec], .pointer (some ⟨g, 0, none⟩)] w (BoolB (!InA.good x) w) := by
  have hb := (Below.refl w.heap.size w).alloc (Nat.le_refl _) (.cells #[.slice x.sa x.s.length x.sc, .slice x.ta x.t.length x.tc, .slice x.ea x.e.length x.ec] 51)
  have hB := Blk.new w 51 #[.slice x.sa x.s.length x.sc, .slice x.ta x.t.length x.tc, .slice x.ea x.e.length x.ec]
  have hr : Calls Tryz.prog 39 #[.agg #[.slice x.sa x.s.length x.sc, .slice x.ta x.t.length x.tc, .slice x.ea x.e.length x.ec]] (w.alloc (.cells #[.slice x.sa x.s.length x.sc, .slice x.ta x.t.length x.tc, .slice x.ea x.e.length x.ec] 51)) (fun e w1 => e = .returned (.bool (InA.good x)) ∧ Below (w.alloc (.cells #[.slice x.sa x.s.length x.sc, .slice x.ta x.t.length x.tc, .slice x.ea x.e.length x.ec] 51)).heap.size (w.alloc (.cells #[.slice x.sa x.s.length x.sc, .slice x.ta x.t.length x.tc, .slice x.ea x.e.length x.ec] 51)) w1) := by
    refine (show Calls Tryz.prog 39 #[.agg #[.slice x.sa x.s.length x.sc, .slice x.ta x.t.length x.tc, .slice x.ea x.e.length x.ec]] (w.alloc (.cells #[.slice x.sa x.s.length x.sc, .slice x.ta x.t.length x.tc, .slice x.ea x.e.length x.ec] 51)) (BoolB (InA.good x) (w.alloc (.cells #[.slice x.sa x.s.length x.sc, .slice x.ta x.t.length x.tc, .slice x.ea x.e.length x.ec] 51))) from ?_).mono fun e w1 h => ?_
    · have hx := InA.ok.call hx hb
      generalize w.alloc (.cells #[.slice x.sa x.s.length x.sc, .slice x.ta x.t.length x.tc, .slice x.ea x.e.length x.ec] 51) = W at *
      exact cfgInh_any x W hx
    · exact h
  have hg1 := (hg.call hb).cell 0
  have c0 := hB.cell 0
  have c1 := hB.cell 1
  have c2 := hB.cell 2
  generalize InA.good x = X at *
  have HB := Lib.hid hb
  have HR := Lib.hid hr
  clear hb hr hx hg hB
  go_enter Tryz.func88, Tryz.ntmps88
  go_upto_region 1 with fail
  generalize w.alloc (.cells #[.slice x.sa x.s.length x.sc, .slice x.ta x.t.length x.tc, .slice x.ea x.e.length x.ec] 51) = wx at *
  go_wp2_with (go_at_call 39; refine HR.out.mono ?_; rintro e w2 ⟨rfl, hb2⟩)
  go_ret
  exact ⟨rfl, bthen HB.out hb2⟩
set_option maxHeartbeats 3200000 in
set_option maxRecDepth 100000 in
theorem idxI_any (a : Option Addr) (c : Nat) (xs : List InA) (g : Nat) (w : World) (h : HasInhs w a c xs) (hg : Blk w g 63 #[.func (.func 39) #[] #[]]) :
    Calls Tryz.prog 125 #[.slice a xs.length c, .func (.func 88) #[] #[.pointer (some ⟨g, 0, none⟩)]] w (IdxW (xs.all InA.good) w) := by
  obtain ⟨J, hJ, hgood, hend⟩ := all_end InA.good xs
  obtain ⟨R, hR⟩ : ∃ R, xs.all InA.good = R := ⟨_, rfl⟩
  rw [hR] at hend ⊢
  have HG := Lib.hid hgood
  have HE := Lib.hid hend
  have HH := Lib.hid h
  have HB := Lib.hid hg
  have h1 := h.1
  have h2 := h.2.1
  unfold maxLen at h2
  clear hgood hend hR h hg
  go_enter Tryz.func125, Tryz.ntmps125
  go_wp2_with fail
  go_loopg [8, 5] xs.length (fun gg iv _ wr => ∃ k : Nat, k + gg = xs.length ∧ k ≤ J ∧ iv = .int .i64 (k : Int) ∧ Below w.heap.size w wr)
  case atStart => exact ⟨0, by omega, Nat.zero_le _, rfl, Below.refl _ _⟩
  case round =>
    obtain ⟨k, hkg, hkJ, rfl, hbr⟩ := hrel
    cases gk with
    | zero =>
      obtain rfl : k = xs.length := by omega
      obtain rfl : R = true := by
        rcases HE.out with ⟨_, e⟩ | ⟨hj, _⟩
        · exact e
        · omega
      have HBR := Lib.hid hbr
      clear hbr
      go_wp2_with fail
      go_ret
      exact ⟨-1, rfl, rfl, HBR.out⟩
    | succ gg =>
      have hkl : k < xs.length := by omega
      obtain ⟨b, off, rfl, _, hc⟩ := HasRow.place HH.out k hkl
      have hx := HH.out.2.2.1 _ (List.getElem_mem hkl)
      have hq := negI_any xs[k] g wr (HB.out.call hbr) (InA.ok.call hx hbr)
      have e0 := cellL hbr (hc 0 _ rfl)
      have e1 := cellL hbr (hc 1 _ rfl)
      have e2 := cellL hbr (hc 2 _ rfl)
      rw [Nat.add_zero] at e0
      clear hc hx
      have hgk : k < J → InA.good xs[k] = true := fun h => HG.out k h hkl
      have hjk : k = J → InA.good xs[k] = false ∧ R = false := fun h => by
        rcases HE.out with ⟨e, _⟩ | ⟨hj, e, e2⟩
        · omega
        · subst h; exact ⟨e, e2⟩
      generalize xs[k] = x at *
      have HQ := Lib.hid hq
      have HBR := Lib.hid hbr
      clear hbr hq
      by_cases hk : k < J
      · rw [hgk hk] at HQ
        clear hgk hjk
        go_wp2_with (go_at_call 88; refine HQ.out.mono ?_; rintro e w2 ⟨rfl, hb2⟩)
        go_roundg gg
        case measure => omega
        case rel => exact ⟨k + 1, by omega, by omega, by go_num, bthen HBR.out hb2⟩
      · obtain ⟨e3, rfl⟩ := hjk (by omega)
        rw [e3] at HQ
        clear hgk hjk e3
        go_wp2_with (go_at_call 88; refine HQ.out.mono ?_; rintro e w2 ⟨rfl, hb2⟩)
        go_ret
        exact ⟨(k : Int), rfl, by simp, bthen HBR.out hb2⟩
theorem conI_any (a : Option Addr) (c : Nat) (xs : List InA) (g : Nat) (w : World) (h : HasInhs w a c xs) (hg : Blk w g 63 #[.func (.func 39) #[] #[]]) :
    Calls Tryz.prog 89 #[.slice a xs.length c, .func (.func 88) #[] #[.pointer (some ⟨g, 0, none⟩)]] w (BoolB (!(xs.all InA.good)) w) := by
  have hi := idxI_any a c xs g w h hg
  generalize xs.all InA.good = R at *
  have HI := Lib.hid hi
  clear hi h hg
  go_enter Tryz.func89, Tryz.ntmps89
  go_wp2_with (go_at_call 125; refine HI.out.mono ?_; rintro e w2 ⟨n, rfl, hn, hb2⟩)
  go_ret
  exact ⟨by first | rfl | rw [hn], hb2⟩
set_option maxHeartbeats 1600000 in
set_option maxRecDepth 100000 in
theorem allI_any (a : Option Addr) (c : Nat) (xs : List InA) (m : Nat) (w : World) (h : HasInhs w a c xs) :
    Calls Tryz.prog 38 #[.slice a xs.length c, .int .i64 (m : Int), .func (.func 39) #[] #[]] w (BoolB (decide (xs.length ≤ m) && xs.all InA.good) w) := by
  have hb := (Below.refl w.heap.size w).alloc (Nat.le_refl _) (.cells #[.func (.func 39) #[] #[]] 63)
  have hB := Blk.new w 63 #[.func (.func 39) #[] #[]]
  have hq := conI_any a c xs w.heap.size _ (h.keep hb) hB
  generalize xs.all InA.good = R at *
  have HQ := Lib.hid hq
  have HB := Lib.hid hb
  clear hq hb hB h
  by_cases h8 : xs.length ≤ m
  · rw [decide_eq_true h8]
    have d8 : decide ((xs.length : Int) ≤ (m : Int)) = true := decide_eq_true (by omega)
    have d9 : decide (xs.length ≤ m) = true := decide_eq_true h8
    clear h8
    go_enter Tryz.func38, Tryz.ntmps38
    go_upto_region 1 with fail
    generalize w.alloc (.cells #[.func (.func 39) #[] #[]] 63) = wx at *
    go_wp2_with (go_at_call 89; refine HQ.out.mono ?_; rintro e w2 ⟨rfl, hb2⟩)
    go_ret
    exact ⟨by cases R <;> rfl, bthen HB.out hb2⟩
  · rw [decide_eq_false h8]
    have d8 : decide ((xs.length : Int) ≤ (m : Int)) = false := decide_eq_false (by omega)
    have d9 : decide (xs.length ≤ m) = false := decide_eq_false h8
    clear h8
    go_enter Tryz.func38, Tryz.ntmps38
    go_upto_region 1 with fail
    generalize w.alloc (.cells #[.func (.func 39) #[] #[]] 63) = wx at *
    go_wp2_with fail
    go_ret
    exact ⟨rfl, HB.out⟩
end Go.Proofs.YtmhekhilgllciaaGreat
/- A row of texts, each of them once: mathematics. It speaks of no program. -/
namespace Go.Proofs.YtmhekhilgllciaaGreat

def stepO (K : List ByteArray) (s : ByteArray) : List ByteArray := if K.any (fun x => decide (x = s)) then K else K ++ [s]
/-- each once, in the order in which they come first -/
def onceL (L : List ByteArray) : List ByteArray := L.foldl stepO []
theorem onceL_snoc (L : List ByteArray) (s : ByteArray) : onceL (L ++ [s]) = stepO (onceL L) s := by simp [onceL]
theorem rev_ind {P : List ByteArray → Prop} (h0 : P []) (h1 : ∀ L s, P L → P (L ++ [s])) (L : List ByteArray) : P L := by
  have : ∀ n, ∀ L : List ByteArray, L.length = n → P L := by
    intro n
    induction n with
    | zero => intro L h; rw [List.eq_nil_of_length_eq_zero h]; exact h0
    | succ n ih =>
      intro L h
      have hne : L ≠ [] := fun e => by rw [e] at h; simp at h
      rw [← List.dropLast_concat_getLast hne]
      exact h1 _ _ (ih _ (by simp [h]))
  exact this _ L rfl
theorem any_mem (K : List ByteArray) (s : ByteArray) : K.any (fun x => decide (x = s)) = true ↔ s ∈ K := by
  simp
theorem mem_once (L : List ByteArray) (x : ByteArray) : x ∈ onceL L ↔ x ∈ L := by
  induction L using rev_ind with
  | h0 => simp [onceL]
  | h1 L s ih =>
    rw [onceL_snoc]
    unfold stepO
    by_cases h : s ∈ onceL L
    · rw [if_pos ((any_mem _ _).2 h)]
      rw [List.mem_append, List.mem_singleton, ih]
      constructor
      · exact .inl
      · rintro (h' | rfl)
        · exact h'
        · exact ih.1 h
    · rw [if_neg (fun e => h ((any_mem _ _).1 e)), List.mem_append, List.mem_append, ih]
theorem once_len (L : List ByteArray) : (onceL L).length ≤ L.length := by
  induction L using rev_ind with
  | h0 => simp [onceL]
  | h1 L s ih =>
    rw [onceL_snoc]
    unfold stepO
    split
    · simp; omega
    · simp; omega
/-- how often a text is there -/
def cntL (L : List ByteArray) (s : ByteArray) : Nat := (L.filter fun x => decide (x = s)).length
theorem cntL_snoc (L : List ByteArray) (x s : ByteArray) : cntL (L ++ [x]) s = cntL L s + if x = s then 1 else 0 := by
  unfold cntL
  rw [List.filter_append, List.length_append]
  by_cases h : x = s <;> simp [h]
theorem cntL_len (L : List ByteArray) (s : ByteArray) : cntL L s ≤ L.length := List.length_filter_le _ _
theorem cntL_zero (L : List ByteArray) (s : ByteArray) : cntL L s = 0 ↔ s ∉ L := by
  unfold cntL
  rw [List.length_eq_zero_iff, List.filter_eq_nil_iff]
  constructor
  · intro h hm
    exact h s hm (by simp)
  · intro h x hx
    simp only [decide_eq_true_eq]
    rintro rfl
    exact h hx
theorem once_new {L : List ByteArray} {s : ByteArray} (h : cntL L s = 0) : onceL (L ++ [s]) = onceL L ++ [s] := by
  rw [onceL_snoc]
  unfold stepO
  have : s ∉ onceL L := fun hm => (cntL_zero L s).1 h ((mem_once L s).1 hm)
  rw [if_neg (fun e => this ((any_mem _ _).1 e))]
theorem once_old {L : List ByteArray} {s : ByteArray} (h : cntL L s ≠ 0) : onceL (L ++ [s]) = onceL L := by
  rw [onceL_snoc]
  unfold stepO
  have : s ∈ onceL L := (mem_once L s).2 (Classical.byContradiction fun hm => h ((cntL_zero L s).2 hm))
  rw [if_pos ((any_mem _ _).2 this)]
/-- what all of some routes tell -/
def tellL (T : Rt → List ByteArray) (xs : List Rt) : List ByteArray := xs.flatMap T
theorem tellL_snoc (T : Rt → List ByteArray) (xs : List Rt) (x : Rt) : tellL T (xs ++ [x]) = tellL T xs ++ T x := by simp [tellL]
theorem tellL_len (T : Rt → List ByteArray) (m : Nat) (h : ∀ x, (T x).length ≤ m) (xs : List Rt) : (tellL T xs).length ≤ xs.length * m := by
  induction xs with
  | nil => simp [tellL]
  | cons x xs ih =>
    have e : tellL T (x :: xs) = T x ++ tellL T xs := rfl
    have := h x
    rw [e, List.length_append, List.length_cons, Nat.succ_mul]
    omega
end Go.Proofs.YtmhekhilgllciaaGreat
/- What the two closures of routes.Names tell of a route: its receiver, and its words of hours. -/
namespace Go.Proofs.YtmhekhilgllciaaGreat
open Go.RowKit

/-- the texts lie in memory as it was at first, or there is just one -/
def TellP (w0 : World) (T : List ByteArray) (w : World) (e : Ending) (w' : World) : Prop := ∃ a c, e = .returned (.slice a T.length c) ∧ HasStrs w' a c T ∧ (HasStrs w0 a c T ∨ T.length = 1) ∧ Below w.heap.size w w'
def recvT (n : Rt) : List ByteArray := [n.recv]
def muteT (n : Rt) : List ByteArray := n.mute
set_option maxHeartbeats 1600000 in
set_option maxRecDepth 100000 in
theorem names1_any (w0 : World) (q : RtAt) (w : World) (h : q.own w0) (_ : Below w0.heap.size w0 w) : Calls Tryz.prog 134 #[.agg (tCells q)] w (TellP w0 (recvT q.n) w) := by
  have hb := (Below.refl w.heap.size w).alloc (Nat.le_refl _) (.cells (tCells q) 27)
  have hB := Blk.new w 27 (tCells q)
  have hs := h.2.2.2.1
  have HB := Lib.hid hb
  clear hb h
  obtain ⟨n, ma, mc, ba, bc, ua, uc, ka, kc⟩ := q
  simp only [tCells] at *
  go_enter Tryz.func134, Tryz.ntmps134
  go_upto_region 1 with fail
  generalize w.alloc (.cells #[.string n.recv, .slice ma n.ms.length mc, .slice ba n.bys.length bc, .int .i64 n.wait, .int .i64 n.every, .int .i64 n.rep, .slice ua n.mute.length uc, .bool n.on, .slice ka n.kids.length kc] 27) = wx at *
  obtain ⟨c0, c1, c2, c3, c4, c5, c6, c7, c8⟩ := hB.cells9
  have hn := (Blk.new wx 9 #[.string n.recv]).cell 0
  have hba := HB.out.alloc HB.out.size (.cells #[.string n.recv] 9)
  have HN := Lib.hid hn
  have HA := Lib.hid hba
  clear hn hba
  go_wp2_with fail
  go_ret
  refine ⟨_, _, rfl, ⟨by simp [recvT], by unfold maxLen; omega, ?_, .inr ⟨_, 0, rfl, by simp, ?_⟩⟩, .inr rfl, HA.out⟩
  · intro s hs'
    simp only [recvT, List.mem_singleton] at hs'
    subst hs'
    unfold maxLen; omega
  · intro i hi
    simp only [recvT, List.length_singleton] at hi
    obtain rfl : i = 0 := by omega
    exact HN.out
set_option maxHeartbeats 1600000 in
set_option maxRecDepth 100000 in
theorem names2_any (w0 : World) (q : RtAt) (w : World) (h : q.own w0) (hw : Below w0.heap.size w0 w) : Calls Tryz.prog 135 #[.agg (tCells q)] w (TellP w0 (muteT q.n) w) := by
  have hb := (Below.refl w.heap.size w).alloc (Nat.le_refl _) (.cells (tCells q) 27)
  have hB := Blk.new w 27 (tCells q)
  have hs := (h.2.2.1.call hw).call hb
  have hs0 := h.2.2.1
  have HB := Lib.hid hb
  have HS := Lib.hid hs
  have HS0 := Lib.hid hs0
  clear hb h hs hs0
  obtain ⟨n, ma, mc, ba, bc, ua, uc, ka, kc⟩ := q
  simp only [tCells] at *
  go_enter Tryz.func135, Tryz.ntmps135
  go_upto_region 1 with fail
  generalize w.alloc (.cells #[.string n.recv, .slice ma n.ms.length mc, .slice ba n.bys.length bc, .int .i64 n.wait, .int .i64 n.every, .int .i64 n.rep, .slice ua n.mute.length uc, .bool n.on, .slice ka n.kids.length kc] 27) = wx at *
  obtain ⟨c0, c1, c2, c3, c4, c5, c6, c7, c8⟩ := hB.cells9
  go_wp2_with fail
  go_ret
  exact ⟨_, _, rfl, HS.out, .inl HS0.out, HB.out⟩
end Go.Proofs.YtmhekhilgllciaaGreat
/- A map of texts by how often they came, of the call's own. -/
namespace Go.Proofs.YtmhekhilgllciaaGreat
open Go.RowKit Go.Maps Go.WideMaps

theorem keyC : Keyed Tryz.prog 9 := string_keyed Tryz.underlying9
def litC (s : ByteArray) : Lit := .string s.data.toList
theorem litC_inj {s t : ByteArray} (h : litC s = litC t) : s = t := by
  simp only [litC, Lit.string.injEq] at h
  exact bytes_ext (by simpa using h)
theorem litC_key (s : ByteArray) : WideAt.IsKeyLit (litC s) := trivial
/-- the map at b has for each text how often it is in L -/
def CntIs (w : World) (b : Nat) (L : List ByteArray) : Prop := ∃ D : DataW Unit, w.ownsMap Tryz.prog 9 (plainElem Tryz.prog 3) b L.length D ∧ Maps.Tidy D ∧
  ∀ s, D.atKey (litC s) (.lit (.int .i64 0)) = .lit (.int .i64 (cntL L s))
theorem CntIs.call {w w1 : World} {b : Nat} {L : List ByteArray} (h : CntIs w b L) (hb : Below w.heap.size w w1) : CntIs w1 b L := by
  obtain ⟨D, h1, h2⟩ := h
  exact ⟨D, h1.kept (row := none) ⟨hb.os, hb.tape, hb.output, hb.size, fun k hk _ => hb.block k hk⟩ (by simp), h2⟩
theorem CntIs.kept {w w1 : World} {b : Nat} {L : List ByteArray} {row : Option Nat} (h : CntIs w b L) (hg : w.grownBy w1 row) (hne : some b ≠ row) : CntIs w1 b L := by
  obtain ⟨D, h1, h2⟩ := h
  exact ⟨D, h1.kept hg hne, h2⟩
theorem CntIs.lt {w : World} {b : Nat} {L : List ByteArray} (h : CntIs w b L) : b < w.heap.size := by
  obtain ⟨D, h1, _⟩ := h
  exact h1.lt
theorem CntIs.made (w : World) : CntIs (w.alloc (.map #[] 0)) w.heap.size [] :=
  ⟨.map [], World.ownsMap_made _ _ _ _, Maps.tidy_empty, fun _ => rfl⟩
theorem zeroI (w : World) : (zeroValue 3).run Tryz.prog w = .ok (.int .i64 0) w := by kernel_rfl
theorem CntIs.look {w : World} {b : Nat} {L : List ByteArray} (h : CntIs w b L) (s : ByteArray) (hs : s.size ≤ maxLen) :
    (Instr.lookup 192 (.map (some b)) (.string s) false).run Tryz.prog w = .ok (.int .i64 (cntL L s : Nat)) w := by
  obtain ⟨D, h1, h2, h5⟩ := h
  obtain ⟨c, hrun, hv, _⟩ := h1.lookup_int keyC Tryz.underlying192 Tryz.underlying3 (zeroI w) (keyOf_string_mk Tryz.underlying9 hs)
  have hat : D.atKey (Lit.string s.data.toList) (.lit (.int .i64 0)) = .lit (.int .i64 (cntL L s)) := h5 s
  rw [hat] at hv
  simp only [DataW.lit.injEq, Lit.int.injEq, true_and] at hv
  rw [hrun, ← hv]
theorem CntIs.put {D : DataW Unit} {w' : World} {b : Nat} {L : List ByteArray} {l : ByteArray} (h2 : Maps.Tidy D)
    (h5 : ∀ s, D.atKey (litC s) (.lit (.int .i64 0)) = .lit (.int .i64 (cntL L s)))
    (h' : w'.ownsMap Tryz.prog 9 (plainElem Tryz.prog 3) b (L.length + 1) (D.put (litC l) (.lit (.int .i64 ((cntL L l : Nat) + 1 : Int))))) : CntIs w' b (L ++ [l]) := by
  refine ⟨_, by rw [List.length_append]; exact h', h2.put (litC_key l) _, fun s => ?_⟩
  rw [cntL_snoc]
  by_cases h : l = s
  · subst h
    rw [Maps.atKey_put_same h2.isMap (litC_key l), if_pos rfl]
    simp
  · rw [Maps.atKey_put_other (fun e => h (litC_inj e).symm), h5, if_neg h]
    simp
set_option maxRecDepth 100000 in
theorem wpList_putC (w : World) {ops : Array Oper} {rest : List Oper} {o : Oper} {a : Act} {Q : Exit → Act → World → Prop}
    (hg : o.guard = none) (m x v : Operand) (hop : o.op = Op.mapUpdate 192 m x v) (b : Nat) (L : List ByteArray) (l : ByteArray)
    (hm : a.eval m = .map (some b)) (h : CntIs w b L) (hK1 : L.length ≤ 1000000000) (hx : a.eval x = .string l) (hv : a.eval v = .int .i64 ((cntL L l : Nat) + 1 : Int)) (hs1 : l.size ≤ maxLen)
    (hK : ∀ w', CntIs w' b (L ++ [l]) → w.grownBy w' (some b) → wpList Tryz.prog ops Q rest (a.put o.dst undef) w') :
    wpList Tryz.prog ops Q (o :: rest) a w := by
  obtain ⟨D, h1, h2, h5⟩ := h
  have hc := cntL_len L l
  refine wpList_plain hg fun K' hK' => ?_
  obtain ⟨w', hrun, r1, r2⟩ := h1.update keyC Tryz.underlying192 (by unfold maxLen; omega) (keyOf_string_mk Tryz.underlying9 hs1)
    (plainElem_int (H := Unit) Tryz.underlying3 (q := .i64) (a := ((cntL L l : Nat) + 1 : Int)) (WalkArith.wf_i64 (by omega)))
  unfold Oper.wp
  simp [execOp, hop, hm, hx, hv, hrun, Result.andThen]
  exact hK' _ _ (hK w' (CntIs.put h2 h5 r1) r2)
end Go.Proofs.YtmhekhilgllciaaGreat
/- The contracts of routes.rightAlone and routes.Right. -/
namespace Go.Proofs.YtmhekhilgllciaaGreat
open Go.RowKit

set_option maxHeartbeats 6400000 in
set_option maxRecDepth 100000 in
theorem rteAlone_any (q : RtAt) (w : World) (h : q.own w) : Calls Tryz.prog 131 #[.agg (tCells q)] w (BoolB (aloneC q.n) w) := by
  have hb := (Below.refl w.heap.size w).alloc (Nat.le_refl _) (.cells (tCells q) 27)
  have hB := Blk.new w 27 (tCells q)
  obtain ⟨h0, h1, h2, h3, h4, h5⟩ := h.call hb
  have h16 : decide ((q.n.kids.length : Int) ≤ 16) = decide (q.n.kids.length ≤ 16) := by rw [Bool.eq_iff_iff]; simp; omega
  have hrc : q.n.recv.size ≤ maxLen := by unfold maxLen; omega
  have HCS := Lib.hid (fun W (hW : Below (w.alloc (.cells (tCells q) 27)).heap.size (w.alloc (.cells (tCells q) 27)) W) => (hB.call hW).cells9)
  have H0 := Lib.hid (fun W => rteWord_any q.n.recv W hrc)
  have H1 := Lib.hid (fun W (hW : Below (w.alloc (.cells (tCells q) 27)).heap.size (w.alloc (.cells (tCells q) 27)) W) => rteMatch_any q.ma q.mc q.n.ms W (h0.call hW))
  have H2 := Lib.hid (fun W (hW : Below (w.alloc (.cells (tCells q) 27)).heap.size (w.alloc (.cells (tCells q) 27)) W) => rteBy_any q.ba q.bc q.n.bys W (h1.call hW) h5.2.1)
  have H3 := Lib.hid (fun W => rteWithin_any q.n.wait 0 1099511627776 W)
  have H4 := Lib.hid (fun W => rteWithin_any q.n.every 1 1099511627776 W)
  have H5 := Lib.hid (fun W => rteWithin_any q.n.rep 1 1099511627776 W)
  have H6 := Lib.hid (fun W (hW : Below (w.alloc (.cells (tCells q) 27)).heap.size (w.alloc (.cells (tCells q) 27)) W) => rteMute_any q.ua q.uc q.n.mute W (h2.call hW))
  have HB := Lib.hid hb
  obtain ⟨c0, c1, c2, c3, c4, c5, c6, c7, c8⟩ := hB.cells9
  have hR : aloneC q.n = (bwC q.n.recv.data.toList && (matchC q.n.ms && (rightC (byLabs q.n.bys) && ((inRt q.n.wait 0 1099511627776 && (inRt q.n.every 1 1099511627776 && inRt q.n.rep 1 1099511627776)) && (muteC q.n.mute && decide (q.n.kids.length ≤ 16)))))) := rfl
  generalize decide (q.n.kids.length ≤ 16) = D at *
  obtain ⟨R, hRR⟩ : ∃ R, aloneC q.n = R := ⟨_, rfl⟩
  rw [hRR] at hR ⊢
  have HR := Lib.hid hR
  clear h h0 h1 h2 h3 h4 h5 hb hB hrc hR hRR
  obtain ⟨n, ma, mc, ba, bc, ua, uc, ka, kc⟩ := q
  simp only [tCells] at *
  generalize bwC n.recv.data.toList = B0 at *
  generalize matchC n.ms = B1 at *
  generalize rightC (byLabs n.bys) = B2 at *
  generalize inRt n.wait 0 1099511627776 = B3 at *
  generalize inRt n.every 1 1099511627776 = B4 at *
  generalize inRt n.rep 1 1099511627776 = B5 at *
  generalize muteC n.mute = B6 at *
  go_enter Tryz.func131, Tryz.ntmps131
  go_upto_region 1 with fail
  generalize w.alloc (.cells #[.string n.recv, .slice ma n.ms.length mc, .slice ba n.bys.length bc, .int .i64 n.wait, .int .i64 n.every, .int .i64 n.rep, .slice ua n.mute.length uc, .bool n.on, .slice ka n.kids.length kc] 27) = wx at *
  cases B0 with
  | false =>
    obtain rfl : R = false := HR.out
    go_wp2_with (go_at_call 192; refine (H0.out _).mono ?_; rintro e w2 ⟨rfl, hb2⟩)
    go_ret
    exact ⟨rfl, bthen HB.out hb2⟩
  | true =>
  cases B1 with
  | false =>
    obtain rfl : R = false := HR.out
    go_wp2_with (first
      | (go_at_call 192; refine (H0.out _).mono ?_; rintro e w2 ⟨rfl, hb2⟩; obtain ⟨_, d1, _, _, _, _, _, _, _⟩ := HCS.out _ hb2)
      | (go_at_call 193; refine (H1.out _ hb2).mono ?_; rintro e w3 ⟨rfl, hb3⟩))
    go_ret
    exact ⟨rfl, bthen HB.out (bthen hb2 hb3)⟩
  | true =>
  cases B2 with
  | false =>
    obtain rfl : R = false := HR.out
    go_wp2_with (first
      | (go_at_call 192; refine (H0.out _).mono ?_; rintro e w2 ⟨rfl, hb2⟩; obtain ⟨_, d1, _, _, _, _, _, _, _⟩ := HCS.out _ hb2)
      | (go_at_call 193; refine (H1.out _ hb2).mono ?_; rintro e w3 ⟨rfl, hb3'⟩; have hb3 := bthen hb2 hb3'; obtain ⟨_, _, e2, _, _, _, _, _, _⟩ := HCS.out _ hb3)
      | (go_at_call 194; refine (H2.out _ hb3).mono ?_; rintro e w4 ⟨rfl, hb4⟩))
    go_ret
    exact ⟨rfl, bthen HB.out (bthen hb3 hb4)⟩
  | true =>
  cases B3 with
  | false =>
    obtain rfl : R = false := HR.out
    go_wp2_with (first
      | (go_at_call 192; refine (H0.out _).mono ?_; rintro e w2 ⟨rfl, hb2⟩; obtain ⟨_, d1, _, _, _, _, _, _, _⟩ := HCS.out _ hb2)
      | (go_at_call 193; refine (H1.out _ hb2).mono ?_; rintro e w3 ⟨rfl, hb3'⟩; have hb3 := bthen hb2 hb3'; obtain ⟨_, _, e2, _, _, _, _, _, _⟩ := HCS.out _ hb3)
      | (go_at_call 194; refine (H2.out _ hb3).mono ?_; rintro e w4 ⟨rfl, hb4'⟩; have hb4 := bthen hb3 hb4'; obtain ⟨_, _, _, f3, f4, f5, f6, _, _⟩ := HCS.out _ hb4)
      | (go_at_call 195; refine (H3.out _).mono ?_; rintro e w5 ⟨rfl, rfl⟩))
    go_ret
    exact ⟨rfl, bthen HB.out hb4⟩
  | true =>
  cases B4 with
  | false =>
    obtain rfl : R = false := HR.out
    go_wp2_with (first
      | (go_at_call 192; refine (H0.out _).mono ?_; rintro e w2 ⟨rfl, hb2⟩; obtain ⟨_, d1, _, _, _, _, _, _, _⟩ := HCS.out _ hb2)
      | (go_at_call 193; refine (H1.out _ hb2).mono ?_; rintro e w3 ⟨rfl, hb3'⟩; have hb3 := bthen hb2 hb3'; obtain ⟨_, _, e2, _, _, _, _, _, _⟩ := HCS.out _ hb3)
      | (go_at_call 194; refine (H2.out _ hb3).mono ?_; rintro e w4 ⟨rfl, hb4'⟩; have hb4 := bthen hb3 hb4'; obtain ⟨_, _, _, f3, f4, f5, f6, _, _⟩ := HCS.out _ hb4)
      | (go_at_call 195; (with_reducible refine (H3.out _).mono ?_); rintro e w5 ⟨rfl, rfl⟩)
      | (go_at_call 195; (with_reducible refine (H4.out _).mono ?_); rintro e w5 ⟨rfl, rfl⟩))
    go_ret
    exact ⟨rfl, bthen HB.out hb4⟩
  | true =>
  cases B5 with
  | false =>
    obtain rfl : R = false := HR.out
    go_wp2_with (first
      | (go_at_call 192; refine (H0.out _).mono ?_; rintro e w2 ⟨rfl, hb2⟩; obtain ⟨_, d1, _, _, _, _, _, _, _⟩ := HCS.out _ hb2)
      | (go_at_call 193; refine (H1.out _ hb2).mono ?_; rintro e w3 ⟨rfl, hb3'⟩; have hb3 := bthen hb2 hb3'; obtain ⟨_, _, e2, _, _, _, _, _, _⟩ := HCS.out _ hb3)
      | (go_at_call 194; refine (H2.out _ hb3).mono ?_; rintro e w4 ⟨rfl, hb4'⟩; have hb4 := bthen hb3 hb4'; obtain ⟨_, _, _, f3, f4, f5, f6, _, _⟩ := HCS.out _ hb4)
      | (go_at_call 195; (with_reducible refine (H3.out _).mono ?_); rintro e w5 ⟨rfl, rfl⟩)
      | (go_at_call 195; (with_reducible refine (H4.out _).mono ?_); rintro e w5 ⟨rfl, rfl⟩)
      | (go_at_call 195; (with_reducible refine (H5.out _).mono ?_); rintro e w5 ⟨rfl, rfl⟩))
    go_ret
    exact ⟨rfl, bthen HB.out hb4⟩
  | true =>
    obtain rfl : R = (B6 && D) := HR.out
    cases B6
    all_goals go_wp2_with (first
      | (go_at_call 192; refine (H0.out _).mono ?_; rintro e w2 ⟨rfl, hb2⟩; obtain ⟨_, d1, _, _, _, _, _, _, _⟩ := HCS.out _ hb2)
      | (go_at_call 193; refine (H1.out _ hb2).mono ?_; rintro e w3 ⟨rfl, hb3'⟩; have hb3 := bthen hb2 hb3'; obtain ⟨_, _, e2, _, _, _, _, _, _⟩ := HCS.out _ hb3)
      | (go_at_call 194; refine (H2.out _ hb3).mono ?_; rintro e w4 ⟨rfl, hb4'⟩; have hb4 := bthen hb3 hb4'; obtain ⟨_, _, _, f3, f4, f5, f6, _, _⟩ := HCS.out _ hb4)
      | (go_at_call 195; (with_reducible refine (H3.out _).mono ?_); rintro e w5 ⟨rfl, rfl⟩)
      | (go_at_call 195; (with_reducible refine (H4.out _).mono ?_); rintro e w5 ⟨rfl, rfl⟩)
      | (go_at_call 195; (with_reducible refine (H5.out _).mono ?_); rintro e w5 ⟨rfl, rfl⟩)
      | (go_at_call 196; refine (H6.out _ hb4).mono ?_; rintro e w6 ⟨rfl, hb6'⟩; have hb6 := bthen hb4 hb6'; obtain ⟨_, _, _, _, _, _, _, _, g8⟩ := HCS.out _ hb6))
    all_goals
      go_ret
      exact ⟨by first | rfl | rw [h16], bthen HB.out hb6⟩
end Go.Proofs.YtmhekhilgllciaaGreat
/- The contract of routes.Right: a closure that calls itself. -/
namespace Go.Proofs.YtmhekhilgllciaaGreat
open Go.RowKit

abbrev rightF (x : Nat) : Value := .func (.func 130) #[] #[.pointer (some ⟨x, 0, none⟩)]
theorem Blk.cell1 {w : World} {g : Nat} {t : TypeId} {v : Value} (h : Blk w g t #[v]) : w.cell? ⟨g, 0, none⟩ = some v := h.cell 0
theorem Blk.set1 {w : World} {g : Nat} {t : TypeId} {v : Value} (h : Blk w g t #[v]) (u : Value) : Blk (w.setCell ⟨g, 0, none⟩ u) g t #[u] := h.set 0 u
theorem rightRt_succ (d : Nat) (n : Rt) : rightRt (d + 1) n = (aloneC n && n.kids.all (rightRt d)) := rfl
set_option maxHeartbeats 6400000 in
set_option maxRecDepth 100000 in
theorem right1_any (x d : Nat) : ∀ (q : RtAt) (w : World), d ≤ 4 → q.ok w → w.cell? ⟨x, 0, none⟩ = some (rightF x) → Calls Tryz.prog 130 #[.agg (tCells q), .int .i64 (5 - (d : Int)), .pointer (some ⟨x, 0, none⟩)] w (BoolB (rightRt d q.n) w) := by
  induction d with
  | zero =>
    intro q w _ h hx
    go_enter Tryz.func130, Tryz.ntmps130
    go_wp2_with fail
    go_ret
    exact ⟨rfl, (Below.refl _ _).alloc (Nat.le_refl _) _⟩
  | succ d ih =>
    intro q w hd h hx
    have hb := (Below.refl w.heap.size w).alloc (Nat.le_refl _) (.cells (tCells q) 27)
    have hB := Blk.new w 27 (tCells q)
    have hok := h.call hb
    have hx1 := cellL hb hx
    have hic := hok.head.2
    have hpl := hok.place
    have hP := rteAlone_any q _ hok.own
    obtain ⟨A, hA⟩ : ∃ A, aloneC q.n = A := ⟨_, rfl⟩
    have hR0 : rightRt (d + 1) q.n = (A && q.n.kids.all (rightRt d)) := by rw [← hA]; rfl
    have h16 : A = true → q.n.kids.length ≤ 16 := fun e => (alone_kids (by rw [hA, e])).1
    rw [hA] at hP
    obtain ⟨J, hJ, hgood, hend⟩ := kids_end (rightRt d) q.n.kids
    obtain ⟨R, hR⟩ : ∃ R, rightRt (d + 1) q.n = R := ⟨_, rfl⟩
    rw [hR] at hR0 ⊢
    have HB := Lib.hid hb
    have HPL := Lib.hid hpl
    have HP := Lib.hid hP
    have HR := Lib.hid hR0
    have H16 := Lib.hid h16
    have HG := Lib.hid hgood
    have HE := Lib.hid hend
    have HIC := Lib.hid hic
    obtain ⟨k1, hk1⟩ : ∃ k1 : Int, 5 - ((d + 1 : Nat) : Int) = k1 := ⟨_, rfl⟩
    have hk2 : k1 + 1 = 5 - (d : Int) := by omega
    have hk4 : ¬ 4 < k1 := by omega
    have hk0 : 0 ≤ k1 := by omega
    rw [hk1]
    have HK := Lib.hid hk2
    clear h hb hok hpl hP hR0 h16 hgood hend hR hA hic hk1 hk2 hx
    obtain ⟨n, ma, mc, ba, bc, ua, uc, ka, kc⟩ := q
    simp only [tCells] at *
    go_enter Tryz.func130, Tryz.ntmps130
    go_upto_region 1 with fail
    generalize w.alloc (.cells #[.string n.recv, .slice ma n.ms.length mc, .slice ba n.bys.length bc, .int .i64 n.wait, .int .i64 n.every, .int .i64 n.rep, .slice ua n.mute.length uc, .bool n.on, .slice ka n.kids.length kc] 27) = wx at *
    obtain ⟨c0, c1, c2, c3, c4, c5, c6, c7, c8⟩ := hB.cells9
    cases A with
    | false =>
      obtain rfl : R = false := by rw [HR.out]; rfl
      go_wp2_with (go_at_call 131; refine HP.out.mono ?_; rintro e w2 ⟨rfl, hb2⟩)
      go_ret
      exact ⟨rfl, bthen HB.out hb2⟩
    | true =>
    have h16 := H16.out rfl
    go_upto_region 3 with (go_at_call 131; refine HP.out.mono ?_; rintro e w2 ⟨rfl, hb2⟩; obtain ⟨d0, d1, d2, d3, d4, d5, d6, d7, d8⟩ := (hB.call hb2).cells9)
    have HR2 : Hid (R = n.kids.all (rightRt d)) := Lib.hid (by rw [HR.out]; rfl)
    by_cases hz0 : n.kids.length = 0
    · have hi0 : n.kids = [] := List.eq_nil_of_length_eq_zero hz0
      obtain rfl : R = true := by rw [HR2.out, hi0]; rfl
      clear hi0
      go_wp2_with fail
      refine wp_loop_rounds 1 ?_
      rw [rounds_succ]
      go_wp2_with fail
      go_ret
      exact ⟨rfl, bthen HB.out hb2⟩
    obtain ⟨b1, o1, rfl, hitems⟩ : ∃ b off, ka = some ⟨b, off, none⟩ ∧ ∀ i (h : i < n.kids.length), ∃ r : RtAt, r.n = n.kids[i] ∧ r.lies wx b (off + i * 9) ∧ r.ok wx := by
      rcases HPL.out with h | ⟨b, off, h1, _, h3⟩
      · exact absurd (by rw [h]; rfl) hz0
      · exact ⟨b, off, h1, h3⟩
    have HI := Lib.hid hitems
    have hic := HIC.out
    have HX := Lib.hid (fun W (hW : Below wx.heap.size wx W) => cellL hW hx1)
    clear hitems hz0 hx1 c0 c1 c2 c3 c4 c5 c6 c7 c8
    unfold maxLen at hic
    go_wp2_with fail
    go_loopg [18, 7] n.kids.length (fun gg iv _ wr => ∃ k : Nat, k + gg = n.kids.length ∧ k ≤ J ∧ iv = .int .i64 k ∧ Below wx.heap.size wx wr)
    case atStart => exact ⟨0, by omega, Nat.zero_le _, rfl, hb2⟩
    case round =>
      obtain ⟨k, hkg, hkJ, rfl, hbr⟩ := hrel
      cases gk with
      | zero =>
        rcases HE.out with ⟨_, hR⟩ | ⟨hj, _⟩
        · obtain rfl : R = true := by rw [HR2.out, hR]
          obtain rfl : k = n.kids.length := by omega
          clear hR
          go_wp2_with fail
          go_ret
          exact ⟨rfl, bthen HB.out hbr⟩
        · omega
      | succ gg =>
        have hkl : k < n.kids.length := by omega
        obtain ⟨r, hrn, hrl, hro⟩ := HI.out k hkl
        obtain ⟨e0, e1, e2, e3, e4, e5, e6, e7, e8⟩ := hrl.call hbr
        have hro' := hro.call hbr
        have hbn := (Below.refl wr.heap.size wr).alloc (Nat.le_refl _) (.cells (tCells r) 27)
        have hro2 := hro'.call hbn
        have hxn := HX.out _ (bthen hbr hbn)
        have hih := ih r _ (by omega) hro2 hxn
        rw [← HK.out] at hih
        obtain ⟨X, hX⟩ : ∃ X, rightRt d r.n = X := ⟨_, rfl⟩
        have hXJ : X = rightRt d n.kids[k] := by rw [← hX, hrn]
        rw [hX] at hih
        obtain ⟨f0, f1, f2, f3, f4, f5, f6, f7, f8⟩ := (Blk.new wr 27 (tCells r)).cells9
        have HIH := Lib.hid hih
        have HXX := Lib.hid hXJ
        have HBN := Lib.hid hbn
        clear hX hrn hrl hro hro' hro2 hih hXJ hbn d0 d1 d2 d3 d4 d5 d6 d7 d8
        obtain ⟨m, ma', mc', ba', bc', ua', uc', ka', kc'⟩ := r
        simp only [tCells] at *
        by_cases hkJ2 : k = J
        · subst hkJ2
          rcases HE.out with ⟨h, _⟩ | ⟨_, hbad, hR⟩
          · omega
          · obtain rfl : R = false := by rw [HR2.out, hR]
            obtain rfl : X = false := by rw [HXX.out, hbad]
            clear hbad hR
            go_wp2_with (go_at_call 130; refine HIH.out.mono ?_; rintro e w3 ⟨rfl, hb3⟩)
            go_ret
            exact ⟨rfl, bthen HB.out (bthen hbr (bthen HBN.out hb3))⟩
        · obtain rfl : X = true := by rw [HXX.out, HG.out k hkl (by omega)]
          go_wp2_with (go_at_call 130; refine HIH.out.mono ?_; rintro e w3 ⟨rfl, hb3⟩)
          go_roundg gg
          case measure => omega
          case rel => exact ⟨k + 1, by omega, by omega, by go_num, bthen hbr (bthen HBN.out hb3)⟩

set_option maxHeartbeats 1600000 in
set_option maxRecDepth 100000 in
theorem rteRight_any (q : RtAt) (w : World) (h : q.ok w) : Calls Tryz.prog 95 #[.agg (tCells q)] w (BoolB (rteC q.n) w) := by
  have hb := (Below.refl w.heap.size w).alloc (Nat.le_refl _) (.cells (tCells q) 27)
  have hB := Blk.new w 27 (tCells q)
  have hz : (w.alloc (.cells (tCells q) 27)).heap.size = w.heap.size + 1 := by simp
  have hX := Blk.new (w.alloc (.cells (tCells q) 27)) 106 #[rightF (w.heap.size + 1)]
  rw [hz] at hX
  have hB3 := hB.alloc (.cells #[rightF (w.heap.size + 1)] 106)
  have hb3 := hb.alloc (by omega) (.cells #[rightF (w.heap.size + 1)] 106)
  have hr := right1_any (w.heap.size + 1) 4 q _ (Nat.le_refl _) (h.call hb3) hX.cell1
  rw [show rightRt 4 q.n = rteC q.n from rfl, show (5 - ((4 : Nat) : Int)) = 1 from rfl] at hr
  have HB := Lib.hid hb3
  have HR := Lib.hid hr
  obtain ⟨c0, c1, c2, c3, c4, c5, c6, c7, c8⟩ := hB3.cells9
  have hx3 := hX.cell1
  clear hb hB hz hX hb3 hB3 hr h
  obtain ⟨n, ma, mc, ba, bc, ua, uc, ka, kc⟩ := q
  simp only [tCells, rightF] at *
  go_enter Tryz.func95, Tryz.ntmps95
  go_upto_region 3 with fail
  generalize (w.alloc (.cells #[.string n.recv, .slice ma n.ms.length mc, .slice ba n.bys.length bc, .int .i64 n.wait, .int .i64 n.every, .int .i64 n.rep, .slice ua n.mute.length uc, .bool n.on, .slice ka n.kids.length kc] 27)).alloc (.cells #[.func (.func 130) #[] #[.pointer (some ⟨w.heap.size + 1, 0, none⟩)]] 106) = wz at *
  go_wp2_with (go_at_call 130; refine HR.out.mono ?_; rintro e w3 ⟨rfl, hb3⟩)
  go_ret
  exact ⟨rfl, bthen HB.out hb3⟩
end Go.Proofs.YtmhekhilgllciaaGreat
/- What gather of routes keeps: the texts so far, how often each came, and the cells that its closure holds. -/
namespace Go.Proofs.YtmhekhilgllciaaGreat
open Go.RowKit

theorem OwnS.type {T : TypeId} {w : World} {base : Nat} {v : Value} {l : List ByteArray} (h : OwnS T w base v l) {k : Nat} (hk : v.ownBlock = some k) : ∃ cs fr, w.heap[k]? = some (.cells cs T fr) := by
  rcases h.2 with ⟨rfl, h0⟩ | ⟨g, cap, cur, rfl, hb, hg, hn, hm, hcs, ht⟩
  · cases hk
  · obtain rfl : g = k := by simpa [Value.ownBlock] using hk
    exact ⟨_, _, hg⟩
theorem OwnS.form {T : TypeId} {w : World} {base : Nat} {v : Value} {l : List ByteArray} (h : OwnS T w base v l) : ∃ a c, v = .slice a l.length c ∧ l.length ≤ c ∧ c ≤ maxLen := by
  rcases h.2 with ⟨rfl, h0⟩ | ⟨g, cap, cur, rfl, hb, hg, hn, hm, hcs, ht⟩
  · exact ⟨none, 0, by rw [h0], by omega, by unfold maxLen; omega⟩
  · exact ⟨_, cap, rfl, hn, hm⟩
theorem OwnS.other {T : TypeId} {w : World} {base f : Nat} {v : Value} {l : List ByteArray} {t : TypeId} {cs : Array Value} (h : OwnS T w base v l) (hF : Blk w f t cs) (ht : t ≠ T) : some f ≠ v.ownBlock := fun e => by
  obtain ⟨cs', fr, e2⟩ := h.type e.symm
  rw [show w.heap[f]? = some (.cells cs t (0, 0)) from hF] at e2
  simp at e2
  exact ht e2.2.1
theorem CntIs.other {w : World} {b f : Nat} {L : List ByteArray} {t : TypeId} {cs : Array Value} (h : CntIs w b L) (hF : Blk w f t cs) : f ≠ b := fun e => by
  obtain ⟨D, ⟨es, clock, h1, _⟩, _⟩ := h
  rw [← e, show w.heap[f]? = some (.cells cs t (0, 0)) from hF] at h1
  cases h1
theorem CntIs.row {w : World} {T : TypeId} {base b : Nat} {v : Value} {L l : List ByteArray} (h : CntIs w b L) (ho : OwnS T w base v l) : some b ≠ v.ownBlock := fun e => by
  obtain ⟨D, ⟨es, clock, h1, _⟩, _⟩ := h
  obtain ⟨cs', fr, e2⟩ := ho.type e.symm
  rw [e2] at h1
  cases h1
/-- what lies in blocks of its own stays, rows of texts and cells for them aside -/
def KeepR (w w' : World) : Prop := w.heap.size ≤ w'.heap.size ∧ ∀ g t cs, t ≠ 24 → t ≠ 9 → Blk w g t cs → Blk w' g t cs
theorem KeepR.refl (w : World) : KeepR w w := ⟨Nat.le_refl _, fun _ _ _ _ _ h => h⟩
theorem KeepR.trans {w w1 w2 : World} (h : KeepR w w1) (k : KeepR w1 w2) : KeepR w w2 := ⟨Nat.le_trans h.1 k.1, fun g t cs h1 h2 hb => k.2 g t cs h1 h2 (h.2 g t cs h1 h2 hb)⟩
theorem KeepR.of {w w' : World} (h : Below w.heap.size w w') : KeepR w w' := ⟨h.size, fun _ _ _ _ _ hb => hb.call h⟩
/-- the cells of gather's closure (the function that tells, the map, the row), and what they hold when the texts L have come -/
structure GatW (w0 : World) (F tB cB aB mB : Nat) (W : World) (v : Value) (L : List ByteArray) : Prop where
  below : Below w0.heap.size w0 W
  tell : Blk W tB 149 #[.func (.func F) #[] #[]]
  times : Blk W cB 192 #[.map (some mB)]
  all : Blk W aB 24 #[v]
  own : OwnS 9 W w0.heap.size v (onceL L)
  cnt : CntIs W mB L
  young : w0.heap.size ≤ aB ∧ w0.heap.size ≤ mB
theorem GatW.call {w0 W W1 : World} {F tB cB aB mB : Nat} {v : Value} {L : List ByteArray} (h : GatW w0 F tB cB aB mB W v L) (hb : Below W.heap.size W W1) : GatW w0 F tB cB aB mB W1 v L :=
  ⟨h.below.trans (hb.mono h.below.size), h.tell.call hb, h.times.call hb, h.all.call hb, h.own.call hb, h.cnt.call hb, h.young⟩
/-- a text that came before -/
theorem GatW.old {w0 W W1 : World} {F tB cB aB mB : Nat} {v : Value} {L : List ByteArray} {s : ByteArray} (h : GatW w0 F tB cB aB mB W v L) (hs : cntL L s ≠ 0) (hc : CntIs W1 mB (L ++ [s])) (hg : W.grownBy W1 (some mB)) :
    GatW w0 F tB cB aB mB W1 v (L ++ [s]) ∧ KeepR W W1 := by
  have n1 := h.cnt.other h.tell
  have n2 := h.cnt.other h.times
  have n3 := h.cnt.other h.all
  refine ⟨⟨h.below.grown hg h.below.size (fun k hk => by rw [← Option.some.inj hk]; exact h.young.2), h.tell.push hg (fun e => n1 (Option.some.inj e)), h.times.push hg (fun e => n2 (Option.some.inj e)), h.all.push hg (fun e => n3 (Option.some.inj e)), ?_, hc, h.young⟩, hg.size, fun g t cs _ _ hb => hb.push hg (fun e => h.cnt.other hb (Option.some.inj e))⟩
  rw [once_old hs]
  exact World.ownsRow.kept h.own hg (.inr (fun e => h.cnt.row h.own e.symm))
theorem GatW.mid {w0 W W1 : World} {F tB cB aB mB : Nat} {v : Value} {L : List ByteArray} {s : ByteArray} (h : GatW w0 F tB cB aB mB W v L) (_hc : CntIs W1 mB (L ++ [s])) (hg : W.grownBy W1 (some mB)) :
    Below w0.heap.size w0 W1 ∧ Blk W1 tB 149 #[.func (.func F) #[] #[]] ∧ Blk W1 cB 192 #[.map (some mB)] ∧ Blk W1 aB 24 #[v] ∧ OwnS 9 W1 w0.heap.size v (onceL L) ∧ KeepR W W1 := by
  have n1 := h.cnt.other h.tell
  have n2 := h.cnt.other h.times
  have n3 := h.cnt.other h.all
  exact ⟨h.below.grown hg h.below.size (fun k hk => by rw [← Option.some.inj hk]; exact h.young.2), h.tell.push hg (fun e => n1 (Option.some.inj e)), h.times.push hg (fun e => n2 (Option.some.inj e)), h.all.push hg (fun e => n3 (Option.some.inj e)), World.ownsRow.kept h.own hg (.inr (fun e => h.cnt.row h.own e.symm)), hg.size, fun g t cs _ _ hb => hb.push hg (fun e => h.cnt.other hb (Option.some.inj e))⟩
/-- a text that is new -/
theorem GatW.new {w0 W W1 W2 : World} {F tB cB aB mB : Nat} {v v2 : Value} {L : List ByteArray} {s : ByteArray} (h : GatW w0 F tB cB aB mB W v L) (hs : cntL L s = 0) (hc : CntIs W1 mB (L ++ [s])) (hg : W.grownBy W1 (some mB))
    (ho : OwnS 9 W2 w0.heap.size v2 (onceL L ++ [s])) (hg2 : W1.grownBy W2 v.ownBlock) : GatW w0 F tB cB aB mB (W2.setCell ⟨aB, 0, none⟩ v2) v2 (L ++ [s]) ∧ KeepR W (W2.setCell ⟨aB, 0, none⟩ v2) := by
  obtain ⟨m1, m2, m3, m4, m5, m6⟩ := h.mid hc hg
  have t2 := m2.push hg2 (m5.other m2 (by decide))
  have t3 := m3.push hg2 (m5.other m3 (by decide))
  have t4 := m4.push hg2 (m5.other m4 (by decide))
  have t6 := hc.kept hg2 (hc.row m5)
  have b2 : Below w0.heap.size w0 W2 := m1.grown hg2 m1.size (fun k hk => (World.ownsRow.lt m5 k hk).1)
  have ne : ∀ {f : Nat} {t : TypeId} {cs : Array Value}, Blk W2 f t cs → t ≠ 24 → f ≠ aB := by
    intro f t cs hb ht e
    rw [e] at hb
    have := (show W2.heap[aB]? = _ from hb).symm.trans (show W2.heap[aB]? = _ from t4)
    simp at this
    exact ht this.2
  have gs := grown_setCell W2 aB 0 v2
  refine ⟨⟨b2.setCell (p := ⟨aB, 0, none⟩) h.young.1 v2, t2.setO _ _ (ne t2 (by decide)), t3.setO _ _ (ne t3 (by decide)), t4.set 0 v2, ?_, t6.kept gs (fun e => t6.other t4 (Option.some.inj e).symm), h.young⟩, ?_, fun g t cs ht1 ht2 hb => ?_⟩
  · rw [once_new hs]
    exact World.ownsRow.kept ho gs (.inr (fun e => ho.other t4 (by decide) e.symm))
  · have := m6.1
    have := hg2.size
    have := gs.size
    omega
  · have h1 := m6.2 g t cs ht1 ht2 hb
    have h2 := h1.push hg2 (m5.other h1 ht2)
    exact h2.setO _ _ (ne h2 ht1)
/-- what the closure does with one route -/
def GatP (w0 : World) (F tB cB aB mB : Nat) (W : World) (M : List ByteArray) (e : Ending) (W' : World) : Prop := e = .returned (.tuple #[]) ∧ (∃ v', GatW w0 F tB cB aB mB W' v' M) ∧ KeepR W W'
end Go.Proofs.YtmhekhilgllciaaGreat
/- The document's own row of a route and all within it. -/
namespace Go.Proofs.YtmhekhilgllciaaGreat
open Go.RowKit

mutual
/-- a route and all within it, each ahead of those within it -/
def Rt.all : Rt → List Rt
  | .mk r m b a e p u o xs => .mk r m b a e p u o xs :: allRs xs
def allRs : List Rt → List Rt
  | [] => []
  | x :: xs => x.all ++ allRs xs
end
theorem Rt.all_eq (n : Rt) : n.all = n :: allRs n.kids := by cases n; rfl
theorem allRs_take (xs : List Rt) (k : Nat) (h : k < xs.length) : allRs (xs.take (k + 1)) = allRs (xs.take k) ++ xs[k].all := by
  induction xs generalizing k with
  | nil => simp at h
  | cons x xs ih =>
    cases k with
    | zero => simp [allRs]
    | succ k =>
      have := ih k (by simpa using h)
      simp only [List.take_succ_cons, allRs, List.getElem_cons_succ, List.append_assoc]
      rw [this]
mutual
theorem Rt.all_len : ∀ (n : Rt), n.all.length = n.count
  | .mk r m b a e p u o xs => by
    have := allRs_len xs
    simp only [Rt.all, Rt.count, List.length_cons]
    omega
theorem allRs_len : ∀ (xs : List Rt), (allRs xs).length = countRs xs
  | [] => rfl
  | x :: xs => by
    have h1 := Rt.all_len x
    have h2 := allRs_len xs
    simp only [allRs, countRs, List.length_append]
    omega
end

def rtV (q : RtAt) : List Value := [.string q.n.recv, .slice q.ma q.n.ms.length q.mc, .slice q.ba q.n.bys.length q.bc, .int .i64 q.n.wait, .int .i64 q.n.every, .int .i64 q.n.rep, .slice q.ua q.n.mute.length q.uc, .bool q.n.on, .slice q.ka q.n.kids.length q.kc]
def rtsV (rs : List RtAt) : List Value := rs.flatMap rtV
theorem rtsV_len : ∀ (rs : List RtAt), (rtsV rs).length = rs.length * 9
  | [] => rfl
  | t :: ts => by
    have ih := rtsV_len ts
    have e : rtsV (t :: ts) = rtV t ++ rtsV ts := rfl
    rw [e, List.length_append, ih, List.length_cons]
    show 9 + _ = _
    omega
theorem rtsV_app (a b : List RtAt) : rtsV (a ++ b) = rtsV a ++ rtsV b := by simp [rtsV]
theorem rtsV_one (rs : List RtAt) : ∀ u ∈ rtsV rs, u.oneCell' = true := by
  intro u hu
  obtain ⟨t, _, h⟩ := List.mem_flatMap.1 hu
  simp only [rtV, List.mem_cons, List.not_mem_nil, or_false] at h
  rcases h with rfl | rfl | rfl | rfl | rfl | rfl | rfl | rfl | rfl <;> rfl
theorem rtsV_get : ∀ (ts : List RtAt) (i : Nat) (h : i < ts.length) (j : Nat), j < 9 → (rtsV ts)[i * 9 + j]? = (rtV ts[i])[j]?
  | t :: ts, 0, _, j, hj => by
    have e : rtsV (t :: ts) = rtV t ++ rtsV ts := rfl
    rw [e, Nat.zero_mul, Nat.zero_add, List.getElem?_append_left (show j < (rtV t).length from hj)]
    rfl
  | t :: ts, i + 1, h, j, hj => by
    have e : rtsV (t :: ts) = rtV t ++ rtsV ts := rfl
    have ih := rtsV_get ts i (by simpa using h) j hj
    rw [e, List.getElem?_append_right (show (rtV t).length ≤ _ by show 9 ≤ _; omega), show (i + 1) * 9 + j - (rtV t).length = i * 9 + j by show _ - 9 = _; omega, ih]
    rfl
/-- v is the call's own slice of the routes rs -/
def OwnR (w : World) (base : Nat) (v : Value) (rs : List RtAt) : Prop := w.ownsRow base 27 9 v rs.length (rtsV rs)
theorem OwnR.call {w w1 : World} {base : Nat} {v : Value} {l : List RtAt} (h : OwnR w base v l) (hb : Below w.heap.size w w1) : OwnR w1 base v l :=
  World.ownsRow.kept h (row := none) ⟨hb.os, hb.tape, hb.output, hb.size, fun k hk _ => hb.block k hk⟩ (by cases v.ownBlock <;> simp)
theorem OwnR.one (w : World) (q : RtAt) (B : Nat) (hB : B ≤ w.heap.size) : OwnR (w.alloc (.cells (tCells q) 27)) B (.slice (some ⟨w.heap.size, 0, none⟩) 1 1) [q] := by
  refine ⟨rfl, .inr ⟨w.heap.size, 1, tCells q, rfl, hB, ?_, Nat.le_refl _, by unfold maxLen; omega, rfl, by simp [rtsV, rtV]⟩⟩
  exact Blk.new w 27 (tCells q)
/-- the slice of block g reads as the routes rs -/
def RowR (w : World) (g : Nat) (rs : List RtAt) : Prop := ∀ j u, (rtsV rs)[j]? = some u → w.cell? ⟨g, j, none⟩ = some u
theorem RowR.call {w w1 : World} {g : Nat} {rs : List RtAt} (h : RowR w g rs) (hb : Below w.heap.size w w1) : RowR w1 g rs := fun j u hu => cellL hb (h j u hu)
theorem RowR.lies {w : World} {g : Nat} {rs : List RtAt} (h : RowR w g rs) (i : Nat) (hi : i < rs.length) : rs[i].lies w g (i * 9) := by
  have k := fun j (hj : j < 9) (u : Value) (hu : (rtV rs[i])[j]? = some u) => h (i * 9 + j) u ((rtsV_get rs i hi j hj).trans hu)
  exact ⟨k 0 (by omega) _ rfl, k 1 (by omega) _ rfl, k 2 (by omega) _ rfl, k 3 (by omega) _ rfl, k 4 (by omega) _ rfl, k 5 (by omega) _ rfl, k 6 (by omega) _ rfl, k 7 (by omega) _ rfl, k 8 (by omega) _ rfl⟩
theorem OwnR.out {w : World} {base : Nat} {v : Value} {rs : List RtAt} (h : OwnR w base v rs) (hne : rs ≠ []) : ∃ g c, v = .slice (some ⟨g, 0, none⟩) rs.length c ∧ base ≤ g ∧ rs.length ≤ c ∧ c ≤ maxLen ∧ RowR w g rs := by
  rcases h.2 with ⟨_, h0⟩ | ⟨g, cap, cur, e, hb, hg, hn, hm, hcs, ht⟩
  · exact absurd (List.eq_nil_of_length_eq_zero h0) hne
  · refine ⟨g, cap, e, hb, hn, hm, fun j u hu => ?_⟩
    have := World.ownsRow.cells h (g := g) (by rw [e]; rfl) j u hu
    have e0 : (⟨g, 0, none⟩ : Addr).add j = ⟨g, j, none⟩ := by unfold Addr.add; split <;> simp_all
    rwa [e0] at this
abbrev rtZ : Value := .agg #[.string ⟨#[]⟩, .slice none 0 0, .slice none 0 0, .int .i64 0, .int .i64 0, .int .i64 0, .slice none 0 0, .bool false, .slice none 0 0]
theorem Tryz.infoR : (Tryz.prog.info? 27).map (fun i => (i.zero, i.size, i.bytes)) = some (some rtZ, 9, 144) := by kernel_rfl
theorem info_partsR {x : Option TypeInfo} (h : x.map (fun i => (i.zero, i.size, i.bytes)) = some (some rtZ, 9, 144)) : ∃ i, x = some i ∧ i.zero = some rtZ ∧ i.size = 9 ∧ i.bytes = 144 := by
  cases x with
  | none => cases h
  | some i => simp at h; exact ⟨i, rfl, h.1, h.2.1, h.2.2⟩

def AllP (w0 : World) (q : RtAt) (W : World) (e : Ending) (W' : World) : Prop :=
  ∃ g c rs, e = .returned (.slice (some ⟨g, 0, none⟩) (List.length rs) c) ∧ W.heap.size ≤ g ∧ rs.map (fun r : RtAt => r.n) = q.n.all ∧ (∀ r ∈ rs, r.ok w0) ∧ RowR W' g rs ∧ rs.length ≤ c ∧ c ≤ maxLen ∧ Below W.heap.size W W'
def AllAll (w0 : World) (q : RtAt) : Prop := ∀ W, Below w0.heap.size w0 W → q.n.count ≤ 100000 → Calls Tryz.prog 30 #[.agg (tCells q)] W (AllP w0 q W)
set_option maxHeartbeats 6400000 in
set_option maxRecDepth 100000 in
theorem all_step {w0 : World} (q : RtAt) (hq : q.ok w0) (HK : q.n.kids = [] ∨ ∃ b off, q.ka = some ⟨b, off, none⟩ ∧ b < w0.heap.size ∧ ∀ i (h : i < q.n.kids.length), ∃ r : RtAt, r.n = q.n.kids[i] ∧ r.lies w0 b (off + i * 9) ∧ r.ok w0 ∧ AllAll w0 r) : AllAll w0 q := by
  intro W hW hcnt
  obtain ⟨i0, hi, hz0, hz1, hz2⟩ := info_partsR Tryz.infoR
  have hb := (Below.refl W.heap.size W).alloc (Nat.le_refl _) (.cells (tCells q) 27)
  have hB := Blk.new W 27 (tCells q)
  have hz : (W.alloc (.cells (tCells q) 27)).heap.size = W.heap.size + 1 := by simp
  have hown := OwnR.one (W.alloc (.cells (tCells q) 27)) q (W.heap.size + 1) (by omega)
  have hb1 := (Below.refl (W.heap.size + 1) (W.alloc (.cells (tCells q) 27))).alloc (by omega) (.cells (tCells q) 27)
  have hB1 := hB.alloc (.cells (tCells q) 27)
  have hkc := hq.head.2
  have hce := q.n.count_eq
  have hae := q.n.all_eq
  rw [hz] at hown
  have HQ := Lib.hid hq
  have HKK := Lib.hid HK
  have HWW := Lib.hid (hW.trans ((hb.mono hW.size).trans (hb1.mono (by have := hW.size; omega))))
  have HBB := Lib.hid (hb.trans (hb1.mono (by omega)))
  have HAE := Lib.hid hae
  have HCE := Lib.hid hce
  have HCN := Lib.hid hcnt
  have hzz : W.heap.size + 1 ≤ ((W.alloc (.cells (tCells q) 27)).alloc (.cells (tCells q) 27)).heap.size := by simp
  have hws : w0.heap.size ≤ W.heap.size + 1 := by have := hW.size; omega
  clear HK hq hW hb hb1 hae hcnt hce
  obtain ⟨n, ma, mc, ba, bc, ua, uc, ka, kc⟩ := q
  simp only [tCells] at *
  unfold maxLen at hkc
  obtain ⟨c0, c1, c2, c3, c4, c5, c6, c7, c8⟩ := hB.cells9
  go_enter Tryz.func30, Tryz.ntmps30
  go_upto_region 2 with fail
  clear c0 c1 c2 c3 c4 c5 c6 c7 c8
  generalize (W.alloc (.cells #[.string n.recv, .slice ma n.ms.length mc, .slice ba n.bys.length bc, .int .i64 n.wait, .int .i64 n.every, .int .i64 n.rep, .slice ua n.mute.length uc, .bool n.on, .slice ka n.kids.length kc] 27)).alloc (.cells #[.string n.recv, .slice ma n.ms.length mc, .slice ba n.bys.length bc, .int .i64 n.wait, .int .i64 n.every, .int .i64 n.rep, .slice ua n.mute.length uc, .bool n.on, .slice ka n.kids.length kc] 27) = wx at *
  obtain ⟨c0, c1, c2, c3, c4, c5, c6, c7, c8⟩ := hB1.cells9
  clear hB hB1 hz
  by_cases hl0 : n.kids.length = 0
  · have hk0 : n.kids = [] := List.eq_nil_of_length_eq_zero hl0
    have hfin : [n] = n.all := by rw [HAE.out, hk0]; rfl
    obtain ⟨g, c', e, hg, hc1, hc2, hrow⟩ := hown.out (List.cons_ne_nil _ _)
    simp only [Value.slice.injEq, Option.some.injEq, Addr.mk.injEq] at e
    obtain ⟨⟨rfl, hx1⟩, hx2, rfl⟩ := e
    clear hx1 hx2
    have HF := Lib.hid hfin
    have HR := Lib.hid hrow
    rw [hl0] at c8
    clear hk0 hfin hrow hown hg hc1 hc2 hws hzz hl0 hkc c0 c1 c2 c3 c4 c5 c6 c7
    go_wp2_with fail
    refine wp_loop_rounds 1 ?_
    rw [rounds_succ]
    go_wp2_with fail
    go_ret
    exact ⟨_, 1, [⟨n, ma, mc, ba, bc, ua, uc, ka, kc⟩], rfl, by omega, HF.out, fun r hr => by rw [List.mem_singleton] at hr; rw [hr]; exact HQ.out, HR.out, Nat.le_refl _, by unfold maxLen; omega, HBB.out⟩
  · obtain ⟨kb, kof, rfl, _, hkk⟩ : ∃ b off, ka = some ⟨b, off, none⟩ ∧ b < w0.heap.size ∧ ∀ i (h : i < n.kids.length), ∃ r : RtAt, r.n = n.kids[i] ∧ r.lies w0 b (off + i * 9) ∧ r.ok w0 ∧ AllAll w0 r := by
      rcases HKK.out with h | h
      · exact absurd (by rw [h]; rfl) hl0
      · exact h
    have HKI := Lib.hid hkk
    clear hkk HKK hl0 c0 c1 c2 c3 c4 c5 c6 c7
    go_wp2_with fail
    clear c8
    go_loopg [11, 3, 5] n.kids.length (fun gg iv v _ wr => ∃ (k : Nat) (rs : List RtAt), k + gg = n.kids.length ∧ iv = .int .i64 (k : Int) ∧ OwnR wr (W.heap.size + 1) v rs ∧ Hid (rs.map (fun r : RtAt => r.n) = n :: allRs (n.kids.take k)) ∧ Hid (∀ r ∈ rs, r.ok w0) ∧ Below (W.heap.size + 1) wx wr ∧ W.heap.size + 1 ≤ wr.heap.size)
    case atStart => exact ⟨0, [_], by omega, rfl, hown, Lib.hid (by simp [allRs]), Lib.hid (fun r hr => by rw [List.mem_singleton] at hr; rw [hr]; exact HQ.out), Below.refl _ _, hzz⟩
    case round =>
      obtain ⟨k, rs, hkg, rfl, hownk, HM, HO, hbr, hzr⟩ := hrel
      cases gk with
      | zero =>
        obtain rfl : k = n.kids.length := by omega
        have hall : rs.map (fun r : RtAt => r.n) = n.all := by rw [HM.out, List.take_length, HAE.out]
        have hne : rs ≠ [] := fun e => by
          have := HM.out
          rw [e] at this
          cases this
        obtain ⟨g, c', rfl, hg, hc1, hc2, hrow⟩ := hownk.out hne
        have HA := Lib.hid hall
        have HR := Lib.hid hrow
        have HBR := Lib.hid hbr
        clear hall hne hrow hownk hbr hown
        go_wp2_with fail
        go_ret
        exact ⟨g, c', rs, rfl, by omega, HA.out, HO.out, HR.out, hc1, hc2, HBB.out.trans (HBR.out.mono (by omega))⟩
      | succ gg =>
        have hkl : k < n.kids.length := by omega
        obtain ⟨r, hrn, hrl, hro, hra⟩ := HKI.out k hkl
        have hbw := HWW.out.trans (hbr.mono hws)
        obtain ⟨e0, e1, e2, e3, e4, e5, e6, e7, e8⟩ := hrl.call hbw
        have hbn := (Below.refl wr.heap.size wr).alloc (Nat.le_refl _) (.cells (tCells r) 27)
        have hat := allRs_take n.kids k hkl
        have hct := countRs_take n.kids k hkl
        have hct2 : countRs (n.kids.take (k + 1)) ≤ countRs n.kids := by
          rw [← allRs_len, ← allRs_len]
          conv => rhs; rw [← List.take_append_drop (k + 1) n.kids]
          have happ : ∀ (a b : List Rt), allRs (a ++ b) = allRs a ++ allRs b := by
            intro a b
            induction a with
            | nil => rfl
            | cons x a ih => simp only [List.cons_append, allRs, ih, List.append_assoc]
          rw [happ, List.length_append]
          omega
        rw [← hrn] at hat hct
        have hrc : r.n.count ≤ 100000 := by have := HCE.out; have := HCN.out; omega
        have hrl2 : rs.length ≤ 100000 := by
          have := congrArg List.length HM.out
          rw [List.length_map, List.length_cons, allRs_len] at this
          have := HCE.out; have := HCN.out
          have h1 : 1 ≤ r.n.count := by rw [Rt.count_eq]; omega
          omega
        have hall := hra _ (hbw.trans (hbn.mono hbw.size)) hrc
        obtain ⟨f0, f1, f2, f3, f4, f5, f6, f7, f8⟩ := (Blk.new wr 27 (tCells r)).cells9
        have hownn := hownk.call hbn
        have hbrn := hbr.trans (hbn.mono hzr)
        have hzn : W.heap.size + 1 ≤ (wr.alloc (.cells (tCells r) 27)).heap.size := Nat.le_trans hzr hbn.size
        have HL9 := Lib.hid (fun (rs' : List RtAt) (h : rs'.map (fun r : RtAt => r.n) = r.n.all) => (show rs'.length ≤ 100000 by
          have h := congrArg List.length h
          rw [List.length_map, Rt.all_len] at h
          omega))
        have HALL := Lib.hid hall
        have HAT := Lib.hid hat
        have HBRN := Lib.hid hbrn
        clear hrn hrl hro hra hbw hat hct hct2 hall hbrn hbn hownk hbr hown
        obtain ⟨r, ma', mc', ba', bc', ua', uc', ka', kc'⟩ := r
        simp only [tCells] at *
        go_wp2_with (first
          | (go_at_call 30; refine HALL.out.mono ?_; rintro e w3 ⟨g', c', rs', rfl, hg', hm', hok', hrow', hc1', hc2', hb3⟩; have hown3 := hownn.call hb3; have hz3 := Nat.le_trans hzn hb3.size; have hl' := HL9.out rs' hm')
          | (refine wpList_append_own _ (by rfl) (.tmp 15) (.tmp 17) 25 (by rfl) (W.heap.size + 1) 27 i0 rtZ 9 144 Tryz.underlying25 hi hz0 hz1 hz2 rfl (by omega) _ rs.length (rtsV rs) (by rfl) hown3 ⟨g', 0, none⟩ rs'.length c' (rtsV rs') (by rfl) (rtsV_len rs') (fun j u hu => by have e9 : (⟨g', 0, none⟩ : Addr).add j = ⟨g', j, none⟩ := (by unfold Addr.add; split <;> simp_all); rw [e9]; exact hrow' j u hu) (rtsV_one rs') (by unfold maxLen; omega) (by omega) hz3 ?_; intro v' w4 hown4 hg4 _))
        have hb4 := (HBRN.out.trans (hb3.mono hzn)).grown hg4 hz3 (fun k hk => (World.ownsRow.lt hown3 k hk).1)
        go_roundg gg
        case measure => omega
        case rel => exact ⟨k + 1, rs ++ rs', by omega, by go_num, by unfold OwnR; rw [rtsV_app, List.length_append]; exact hown4, Lib.hid (by rw [List.map_append, HM.out, hm', HAT.out]; rfl), Lib.hid (fun x hx => (List.mem_append.1 hx).elim (HO.out x) (hok' x)), hb4, Nat.le_trans hz3 hg4.size⟩
theorem all_any {w0 : World} {q : RtAt} (h : q.ok w0) : AllAll w0 q := by
  induction h with
  | flat q h0 h1 => exact all_step q (.flat q h0 h1) (.inl h1)
  | row q b off R h0 h1 h2 h3 h4 h5 ih => exact all_step q (.row q b off R h0 h1 h2 h3 h4 h5) (.inr ⟨b, off, h1, h2, fun i hi => ⟨R i, h3 i hi, h4 i hi, h5 i hi, ih i hi⟩⟩)
end Go.Proofs.YtmhekhilgllciaaGreat
/- The contract of routes' each, as gather calls it. -/
namespace Go.Proofs.YtmhekhilgllciaaGreat
open Go.RowKit

theorem tellL_app (T : Rt → List ByteArray) (xs ys : List Rt) : tellL T (xs ++ ys) = tellL T xs ++ tellL T ys := by simp [tellL]
theorem allRs_app (a b : List Rt) : allRs (a ++ b) = allRs a ++ allRs b := by
  induction a with
  | nil => rfl
  | cons x a ih => simp only [List.cons_append, allRs, ih, List.append_assoc]
theorem tell_take (T : Rt → List ByteArray) (xs : List Rt) (k : Nat) : (tellL T (allRs (xs.take k))).length ≤ (tellL T (allRs xs)).length := by
  conv => rhs; rw [← List.take_append_drop k xs]
  rw [allRs_app, tellL_app, List.length_append]
  omega
abbrev gatF (tB cB aB : Nat) : Value := .func (.func 198) #[] #[.pointer (some ⟨tB, 0, none⟩), .pointer (some ⟨cB, 0, none⟩), .pointer (some ⟨aB, 0, none⟩)]
abbrev visF (dB vB : Nat) : Value := .func (.func 197) #[] #[.pointer (some ⟨dB, 0, none⟩), .pointer (some ⟨vB, 0, none⟩)]
structure EachW (w0 : World) (F tB cB aB mB dB vB : Nat) (W : World) (v : Value) (L : List ByteArray) : Prop where
  gat : GatW w0 F tB cB aB mB W v L
  doC : Blk W dB 148 #[gatF tB cB aB]
  vis : Blk W vB 148 #[visF dB vB]
theorem EachW.call {w0 W W1 : World} {F tB cB aB mB dB vB : Nat} {v : Value} {L : List ByteArray} (h : EachW w0 F tB cB aB mB dB vB W v L) (hb : Below W.heap.size W W1) : EachW w0 F tB cB aB mB dB vB W1 v L := ⟨h.gat.call hb, h.doC.call hb, h.vis.call hb⟩
theorem EachW.keep {w0 W W1 : World} {F tB cB aB mB dB vB : Nat} {v v1 : Value} {L M : List ByteArray} (h : EachW w0 F tB cB aB mB dB vB W v L) (hg : GatW w0 F tB cB aB mB W1 v1 M) (hk : KeepR W W1) : EachW w0 F tB cB aB mB dB vB W1 v1 M :=
  ⟨hg, hk.2 _ _ _ (by decide) (by decide) h.doC, hk.2 _ _ _ (by decide) (by decide) h.vis⟩
def EachAll (w0 : World) (F tB cB aB mB dB vB : Nat) (T : Rt → List ByteArray) (q : RtAt) : Prop :=
  ∀ (W : World) (v : Value) (L : List ByteArray), L.length + (tellL T q.n.all).length ≤ 100000000 → EachW w0 F tB cB aB mB dB vB W v L →
    Calls Tryz.prog 197 #[.agg (tCells q), .pointer (some ⟨dB, 0, none⟩), .pointer (some ⟨vB, 0, none⟩)] W (GatP w0 F tB cB aB mB W (L ++ tellL T q.n.all))
def GatAll (w0 : World) (F tB cB aB mB : Nat) (T : Rt → List ByteArray) : Prop := ∀ (q : RtAt) (W : World) (v : Value) (L : List ByteArray), q.own w0 → L.length + (T q.n).length ≤ 100000000 → GatW w0 F tB cB aB mB W v L →
  Calls Tryz.prog 198 #[.agg (tCells q), .pointer (some ⟨tB, 0, none⟩), .pointer (some ⟨cB, 0, none⟩), .pointer (some ⟨aB, 0, none⟩)] W (GatP w0 F tB cB aB mB W (L ++ T q.n))
set_option maxHeartbeats 6400000 in
set_option maxRecDepth 100000 in
theorem each_step {w0 : World} {F tB cB aB mB dB vB : Nat} {T : Rt → List ByteArray} (HG : GatAll w0 F tB cB aB mB T) (q : RtAt) (hq : q.own w0) (hkc : q.n.kids.length ≤ q.kc ∧ q.kc ≤ maxLen)
    (HK : q.n.kids = [] ∨ ∃ b off, q.ka = some ⟨b, off, none⟩ ∧ b < w0.heap.size ∧ ∀ i (h : i < q.n.kids.length), ∃ r : RtAt, r.n = q.n.kids[i] ∧ r.lies w0 b (off + i * 9) ∧ r.ok w0 ∧ EachAll w0 F tB cB aB mB dB vB T r) : EachAll w0 F tB cB aB mB dB vB T q := by
  intro W v L hL hW
  have hb := (Below.refl W.heap.size W).alloc (Nat.le_refl _) (.cells (tCells q) 27)
  have hB := Blk.new W 27 (tCells q)
  have hW1 := hW.call hb
  have hall : tellL T q.n.all = T q.n ++ tellL T (allRs q.n.kids) := by rw [Rt.all_eq]; rfl
  have hll := congrArg List.length hall
  rw [List.length_append] at hll
  have hg := HG q _ v L hq (by omega) hW1.gat
  have HGG := Lib.hid hg
  have HALL := Lib.hid hall
  have HK1 := Lib.hid (KeepR.of hb)
  have HKK := Lib.hid HK
  have HLB := Lib.hid (show L.length + (T q.n).length + (tellL T (allRs q.n.kids)).length ≤ 100000000 by omega)
  clear hg hall hb hq HK hW hL hll HG
  obtain ⟨n, ma, mc, ba, bc, ua, uc, ka, kc⟩ := q
  simp only [tCells] at *
  unfold maxLen at hkc
  go_enter Tryz.func197, Tryz.ntmps197
  go_upto_region 1 with fail
  generalize W.alloc (.cells #[.string n.recv, .slice ma n.ms.length mc, .slice ba n.bys.length bc, .int .i64 n.wait, .int .i64 n.every, .int .i64 n.rep, .slice ua n.mute.length uc, .bool n.on, .slice ka n.kids.length kc] 27) = wx at *
  obtain ⟨c0, c1, c2, c3, c4, c5, c6, c7, c8⟩ := hB.cells9
  have x1 := hW1.doC.cell1
  simp only [gatF] at x1
  go_upto_region 2 with (go_at_call 198; refine HGG.out.mono ?_; rintro e w2 ⟨rfl, ⟨v2, hg2⟩, hk2⟩)
  have hW2 := hW1.keep hg2 hk2
  have hB2 := hk2.2 _ _ _ (by decide) (by decide) hB
  have HK2 := Lib.hid (HK1.out.trans hk2)
  clear hg2 hk2 hW1 x1 c0 c1 c2 c3 c4 c5 c6 c7 c8 hB HGG HK1
  obtain ⟨-, -, -, -, -, -, -, -, c8⟩ := hB2.cells9
  clear hB2
  by_cases hl0 : n.kids.length = 0
  · have hk0 : n.kids = [] := List.eq_nil_of_length_eq_zero hl0
    have hfin : L ++ T n = L ++ tellL T n.all := by rw [HALL.out, hk0]; simp [allRs, tellL]
    have HF := Lib.hid hfin
    have HW2 := Lib.hid hW2
    rw [hl0] at c8
    clear hk0 hfin hW2 hl0 hkc
    go_wp2_with fail
    refine wp_loop_rounds 1 ?_
    rw [rounds_succ]
    go_wp2_with fail
    go_end0
    exact ⟨rfl, ⟨_, by rw [← HF.out]; exact HW2.out.gat⟩, HK2.out⟩
  · obtain ⟨kb, kof, rfl, _, hkk⟩ : ∃ b off, ka = some ⟨b, off, none⟩ ∧ b < w0.heap.size ∧ ∀ i (h : i < n.kids.length), ∃ r : RtAt, r.n = n.kids[i] ∧ r.lies w0 b (off + i * 9) ∧ r.ok w0 ∧ EachAll w0 F tB cB aB mB dB vB T r := by
      rcases HKK.out with h | h
      · exact absurd (by rw [h]; rfl) hl0
      · exact h
    have HKI := Lib.hid hkk
    clear hkk HKK hl0
    go_wp2_with fail
    clear c8
    go_loopg [12, 5] n.kids.length (fun gg iv _ wr => ∃ (k : Nat) (vk : Value), k + gg = n.kids.length ∧ iv = .int .i64 (k : Int) ∧ EachW w0 F tB cB aB mB dB vB wr vk (L ++ T n ++ tellL T (allRs (n.kids.take k))) ∧ Hid (KeepR W wr))
    case atStart => exact ⟨0, v2, by omega, rfl, by simpa [allRs, tellL] using hW2, HK2⟩
    case round =>
      obtain ⟨k, vk, hkg, rfl, hWk, HKk⟩ := hrel
      cases gk with
      | zero =>
        obtain rfl : k = n.kids.length := by omega
        have hfin : L ++ T n ++ tellL T (allRs (n.kids.take n.kids.length)) = L ++ tellL T n.all := by rw [List.take_length, HALL.out, List.append_assoc]
        rw [hfin] at hWk
        have HWK := Lib.hid hWk
        clear hWk hfin
        go_wp2_with fail
        go_end0
        exact ⟨rfl, ⟨_, HWK.out.gat⟩, HKk.out⟩
      | succ gg =>
        have hkl : k < n.kids.length := by omega
        obtain ⟨r, hrn, hrl, hro, hra⟩ := HKI.out k hkl
        obtain ⟨e0, e1, e2, e3, e4, e5, e6, e7, e8⟩ := hrl.call hWk.gat.below
        have hbn := (Below.refl wr.heap.size wr).alloc (Nat.le_refl _) (.cells (tCells r) 27)
        have hat := allRs_take n.kids k hkl
        rw [← hrn] at hat
        have hlt := tell_take T n.kids (k + 1)
        rw [hat, tellL_app, List.length_append] at hlt
        have hWn := hWk.call hbn
        have hcall := hra _ vk _ (by have := HLB.out; rw [List.length_append, List.length_append]; omega) hWn
        obtain ⟨f0, f1, f2, f3, f4, f5, f6, f7, f8⟩ := (Blk.new wr 27 (tCells r)).cells9
        have x2 := hWn.vis.cell1
        simp only [visF] at x2
        have hnx : L ++ T n ++ tellL T (allRs (n.kids.take k)) ++ tellL T r.n.all = L ++ T n ++ tellL T (allRs (n.kids.take (k + 1))) := by rw [hat, tellL_app, List.append_assoc (L ++ T n)]
        rw [hnx] at hcall
        have HCALL := Lib.hid hcall
        have HKN := Lib.hid (HKk.out.trans (KeepR.of hbn))
        have HWN := Lib.hid hWn
        clear hrn hrl hro hra hbn hat hlt hWn hcall hnx hWk HKk
        obtain ⟨r, ma', mc', ba', bc', ua', uc', ka', kc'⟩ := r
        simp only [tCells] at *
        go_wp2_with (go_at_call 197; refine HCALL.out.mono ?_; rintro e w3 ⟨rfl, ⟨v3, hg3⟩, hk3⟩)
        go_roundg gg
        case measure => omega
        case rel => exact ⟨k + 1, v3, by omega, by go_num, HWN.out.keep hg3 hk3, Lib.hid (HKN.out.trans hk3)⟩
theorem eachIn_any {w0 : World} {F tB cB aB mB dB vB : Nat} {T : Rt → List ByteArray} (HG : GatAll w0 F tB cB aB mB T) {q : RtAt} (h : q.ok w0) : EachAll w0 F tB cB aB mB dB vB T q := by
  induction h with
  | flat q h0 h1 => exact each_step HG q h0.1 h0.2 (.inl h1)
  | row q b off R h0 h1 h2 h3 h4 h5 ih => exact each_step HG q h0.1 h0.2 (.inr ⟨b, off, h1, h2, fun i hi => ⟨R i, h3 i hi, h4 i hi, h5 i hi, ih i hi⟩⟩)
end Go.Proofs.YtmhekhilgllciaaGreat
