/- The contracts of config.rightAll, of matchers, texts, rules and hours. -/
import Derived.Test.YtmhekhilgllciaaGreatMg2
import Derived.Test.YtmhekhilgllciaaGreatLabC
import Derived.Test.YtmhekhilgllciaaGreatOwn
import Derived.Laws.StructEq
import Derived.Test.YtmhekhilgllciaaGreatShelf
import Derived.Test.YtmhekhilgllciaaGreatCfgD
import Derived.Test.YtmhekhilgllciaaGreatLib
import Derived.Test.YtmhekhilgllciaaGreatInfo
import Derived.Test.YtmhekhilgllciaaGreatOwnS
namespace Go.Proofs.YtmhekhilgllciaaGreat
open Go.RowKit

theorem cfgWord_any (s : ByteArray) (w : World) (hs : s.size ≤ maxLen) : Calls Tryz.prog 37 #[.string s] w (BoolB (bwC s.data.toList) w) := by
  have hb := (Below.refl w.heap.size w).alloc (Nat.le_refl _) (.cells #[.string s, .slice none 0 0, .slice none 0 0] 113)
  have hB := Blk.new w 113 #[.string s, .slice none 0 0, .slice none 0 0]
  have hd : HasDefs (w.alloc (.cells #[.string s, .slice none 0 0, .slice none 0 0] 113)) (some ⟨w.heap.size, 0, none⟩) 1 [⟨s, [], []⟩] := by
    refine ⟨Nat.le_refl _, by unfold maxLen; omega, .inr ⟨_, _, rfl, hB.lt, fun i hi => ?_⟩⟩
    obtain rfl : i = 0 := by simpa using hi
    refine ⟨⟨⟨s, [], []⟩, none, 0, none, 0⟩, rfl, ⟨hB.cell 0, hB.cell 1, hB.cell 2⟩, HasStrs.nil _ _ _ (Nat.zero_le _), HasStrs.nil _ _ _ (Nat.zero_le _), hs⟩
  have hr := bRight_any _ _ _ _ hd
  rw [word_defsR] at hr
  go_enter Tryz.func37, Tryz.ntmps37
  go_wp2_with (go_at_call 87; refine hr.mono ?_; rintro e w2 ⟨rfl, hb2⟩)
  go_ret
  exact ⟨rfl, bthen hb hb2⟩
set_option maxHeartbeats 1600000 in
set_option maxRecDepth 100000 in
theorem negM_any (xa : Option Addr) (xc : Nat) (x : Mat) (g : Nat) (w : World) (hg : Blk w g 137 #[.func (.func 127) #[] #[]]) (hx : HasMat w (.agg (matCells xa xc x)) x) : Calls Tryz.prog 188 #[.agg #[.string x.name, .int .i64 x.how, .slice xa x.words.length xc], .pointer (some ⟨g, 0, none⟩)] w (BoolB (!rightM x) w) := by
  have hb := (Below.refl w.heap.size w).alloc (Nat.le_refl _) (.cells #[.string x.name, .int .i64 x.how, .slice xa x.words.length xc] 97)
  have hB := Blk.new w 97 #[.string x.name, .int .i64 x.how, .slice xa x.words.length xc]
  have hr : Calls Tryz.prog 127 #[.agg #[.string x.name, .int .i64 x.how, .slice xa x.words.length xc]] (w.alloc (.cells #[.string x.name, .int .i64 x.how, .slice xa x.words.length xc] 97)) (fun e w1 => e = .returned (.bool (rightM x)) ∧ Below (w.alloc (.cells #[.string x.name, .int .i64 x.how, .slice xa x.words.length xc] 97)).heap.size (w.alloc (.cells #[.string x.name, .int .i64 x.how, .slice xa x.words.length xc] 97)) w1) := by
    refine (show Calls Tryz.prog 127 #[.agg #[.string x.name, .int .i64 x.how, .slice xa x.words.length xc]] (w.alloc (.cells #[.string x.name, .int .i64 x.how, .slice xa x.words.length xc] 97)) (BoolB (rightM x) (w.alloc (.cells #[.string x.name, .int .i64 x.how, .slice xa x.words.length xc] 97))) from ?_).mono fun e w1 h => ?_
    · have hx := hx.call hb
      generalize w.alloc (.cells #[.string x.name, .int .i64 x.how, .slice xa x.words.length xc] 97) = W at *
      exact mRight_any _ x W hx
    · exact h
  have hg1 := (hg.call hb).cell 0
  have c0 := hB.cell 0
  have c1 := hB.cell 1
  have c2 := hB.cell 2
  generalize rightM x = X at *
  have HB := Lib.hid hb
  have HR := Lib.hid hr
  clear hb hr hx hg hB
  go_enter Tryz.func188, Tryz.ntmps188
  go_upto_region 1 with fail
  generalize w.alloc (.cells #[.string x.name, .int .i64 x.how, .slice xa x.words.length xc] 97) = wx at *
  go_wp2_with (go_at_call 127; refine HR.out.mono ?_; rintro e w2 ⟨rfl, hb2⟩)
  go_ret
  exact ⟨rfl, bthen HB.out hb2⟩
set_option maxHeartbeats 3200000 in
set_option maxRecDepth 100000 in
theorem idxM_any (a : Option Addr) (c : Nat) (xs : List Mat) (g : Nat) (w : World) (h : HasMats w a c xs) (hg : Blk w g 137 #[.func (.func 127) #[] #[]]) :
    Calls Tryz.prog 221 #[.slice a xs.length c, .func (.func 188) #[] #[.pointer (some ⟨g, 0, none⟩)]] w (IdxW (xs.all rightM) w) := by
  obtain ⟨J, hJ, hgood, hend⟩ := all_end rightM xs
  obtain ⟨R, hR⟩ : ∃ R, xs.all rightM = R := ⟨_, rfl⟩
  rw [hR] at hend ⊢
  have HG := Lib.hid hgood
  have HE := Lib.hid hend
  have HH := Lib.hid h
  have HB := Lib.hid hg
  have h1 := h.1
  have h2 := h.2.1
  unfold maxLen at h2
  clear hgood hend hR h hg
  go_enter Tryz.func221, Tryz.ntmps221
  go_wp2_with fail
  go_loopg [8, 5] xs.length (fun gg iv _ wr => ∃ k : Nat, k + gg = xs.length ∧ k ≤ J ∧ iv = .int .i64 (k : Int) ∧ Below w.heap.size w wr)
  case atStart => exact ⟨0, by omega, Nat.zero_le _, rfl, Below.refl _ _⟩
  case round =>
    obtain ⟨k, hkg, hkJ, rfl, hbr⟩ := hrel
    cases gk with
    | zero =>
      obtain rfl : k = xs.length := by omega
      obtain rfl : R = true := by
        rcases HE.out with ⟨_, e⟩ | ⟨hj, _⟩
        · exact e
        · omega
      have HBR := Lib.hid hbr
      clear hbr
      go_wp2_with fail
      go_ret
      exact ⟨-1, rfl, rfl, HBR.out⟩
    | succ gg =>
      have hkl : k < xs.length := by omega
      obtain ⟨b, off, rfl, xa, xc, ⟨g0, g1, g2⟩, g3, g4, g5⟩ : ∃ b off, a = some ⟨b, off, none⟩ ∧ ∃ x y,
          (w.cell? ⟨b, off + k * 3, none⟩ = some (.string xs[k].name) ∧ w.cell? ⟨b, off + k * 3 + 1, none⟩ = some (.int .i64 xs[k].how) ∧ w.cell? ⟨b, off + k * 3 + 2, none⟩ = some (.slice x xs[k].words.length y)) ∧ HasStrs w x y xs[k].words ∧ xs[k].name.size ≤ maxLen ∧ (Lit.int .i64 xs[k].how).wf = true := by
        rcases HH.out.2.2 with h | ⟨b, off, h1, _, h3⟩
        · rw [h] at hkl; simp at hkl
        · exact ⟨b, off, h1, h3 k hkl⟩
      have e0 := cellL hbr g0
      have e1 := cellL hbr g1
      have e2 := cellL hbr g2
      have hq := negM_any xa xc xs[k] g wr (HB.out.call hbr) ⟨xa, xc, rfl, g3.call hbr, g4, g5⟩
      clear g0 g1 g2 g3 g4 g5
      have hgk : k < J → rightM xs[k] = true := fun h => HG.out k h hkl
      have hjk : k = J → rightM xs[k] = false ∧ R = false := fun h => by
        rcases HE.out with ⟨e, _⟩ | ⟨hj, e, e2⟩
        · omega
        · subst h; exact ⟨e, e2⟩
      generalize xs[k] = x at *
      have HQ := Lib.hid hq
      have HBR := Lib.hid hbr
      clear hbr hq
      by_cases hk : k < J
      · rw [hgk hk] at HQ
        clear hgk hjk
        go_wp2_with (go_at_call 188; refine HQ.out.mono ?_; rintro e w2 ⟨rfl, hb2⟩)
        go_roundg gg
        case measure => omega
        case rel => exact ⟨k + 1, by omega, by omega, by go_num, bthen HBR.out hb2⟩
      · obtain ⟨e3, rfl⟩ := hjk (by omega)
        rw [e3] at HQ
        clear hgk hjk e3
        go_wp2_with (go_at_call 188; refine HQ.out.mono ?_; rintro e w2 ⟨rfl, hb2⟩)
        go_ret
        exact ⟨(k : Int), rfl, by simp, bthen HBR.out hb2⟩
theorem conM_any (a : Option Addr) (c : Nat) (xs : List Mat) (g : Nat) (w : World) (h : HasMats w a c xs) (hg : Blk w g 137 #[.func (.func 127) #[] #[]]) :
    Calls Tryz.prog 189 #[.slice a xs.length c, .func (.func 188) #[] #[.pointer (some ⟨g, 0, none⟩)]] w (BoolB (!(xs.all rightM)) w) := by
  have hi := idxM_any a c xs g w h hg
  generalize xs.all rightM = R at *
  have HI := Lib.hid hi
  clear hi h hg
  go_enter Tryz.func189, Tryz.ntmps189
  go_wp2_with (go_at_call 221; refine HI.out.mono ?_; rintro e w2 ⟨n, rfl, hn, hb2⟩)
  go_ret
  exact ⟨by first | rfl | rw [hn], hb2⟩
set_option maxHeartbeats 1600000 in
set_option maxRecDepth 100000 in
theorem allM_any (a : Option Addr) (c : Nat) (xs : List Mat) (m : Nat) (w : World) (h : HasMats w a c xs) :
    Calls Tryz.prog 126 #[.slice a xs.length c, .int .i64 (m : Int), .func (.func 127) #[] #[]] w (BoolB (decide (xs.length ≤ m) && xs.all rightM) w) := by
  have hb := (Below.refl w.heap.size w).alloc (Nat.le_refl _) (.cells #[.func (.func 127) #[] #[]] 137)
  have hB := Blk.new w 137 #[.func (.func 127) #[] #[]]
  have hq := conM_any a c xs w.heap.size _ (h.call hb) hB
  generalize xs.all rightM = R at *
  have HQ := Lib.hid hq
  have HB := Lib.hid hb
  clear hq hb hB h
  by_cases h8 : xs.length ≤ m
  · rw [decide_eq_true h8]
    have d8 : decide ((xs.length : Int) ≤ (m : Int)) = true := decide_eq_true (by omega)
    have d9 : decide (xs.length ≤ m) = true := decide_eq_true h8
    clear h8
    go_enter Tryz.func126, Tryz.ntmps126
    go_upto_region 1 with fail
    generalize w.alloc (.cells #[.func (.func 127) #[] #[]] 137) = wx at *
    go_wp2_with (go_at_call 189; refine HQ.out.mono ?_; rintro e w2 ⟨rfl, hb2⟩)
    go_ret
    exact ⟨by cases R <;> rfl, bthen HB.out hb2⟩
  · rw [decide_eq_false h8]
    have d8 : decide ((xs.length : Int) ≤ (m : Int)) = false := decide_eq_false (by omega)
    have d9 : decide (xs.length ≤ m) = false := decide_eq_false h8
    clear h8
    go_enter Tryz.func126, Tryz.ntmps126
    go_upto_region 1 with fail
    generalize w.alloc (.cells #[.func (.func 127) #[] #[]] 137) = wx at *
    go_wp2_with fail
    go_ret
    exact ⟨rfl, HB.out⟩
set_option maxHeartbeats 1600000 in
set_option maxRecDepth 100000 in
theorem negS_any (x : ByteArray) (g : Nat) (w : World) (hg : Blk w g 39 #[.func (.func 37) #[] #[]]) (hx : x.size ≤ maxLen) : Calls Tryz.prog 85 #[.string x, .pointer (some ⟨g, 0, none⟩)] w (BoolB (!(fun s : ByteArray => bwC s.data.toList) x) w) := by
  have hr := cfgWord_any x w hx
  have hg1 := hg.cell 0
  obtain ⟨X, hX⟩ : ∃ X, bwC x.data.toList = X := ⟨_, rfl⟩
  rw [hX] at hr
  rw [show (fun s : ByteArray => bwC s.data.toList) x = X from hX]
  have HR := Lib.hid hr
  clear hr hx hg hX
  go_enter Tryz.func85, Tryz.ntmps85
  go_wp2_with (go_at_call 37; refine HR.out.mono ?_; rintro e w2 ⟨rfl, hb2⟩)
  go_ret
  exact ⟨rfl, hb2⟩
set_option maxHeartbeats 3200000 in
set_option maxRecDepth 100000 in
theorem idxS_any (a : Option Addr) (c : Nat) (xs : List ByteArray) (g : Nat) (w : World) (h : HasStrs w a c xs) (hg : Blk w g 39 #[.func (.func 37) #[] #[]]) :
    Calls Tryz.prog 123 #[.slice a xs.length c, .func (.func 85) #[] #[.pointer (some ⟨g, 0, none⟩)]] w (IdxW (xs.all (fun s : ByteArray => bwC s.data.toList)) w) := by
  obtain ⟨J, hJ, hgood, hend⟩ := all_end (fun s : ByteArray => bwC s.data.toList) xs
  obtain ⟨R, hR⟩ : ∃ R, xs.all (fun s : ByteArray => bwC s.data.toList) = R := ⟨_, rfl⟩
  rw [hR] at hend ⊢
  have HG := Lib.hid hgood
  have HE := Lib.hid hend
  have HH := Lib.hid h
  have HB := Lib.hid hg
  have h1 := h.1
  have h2 := h.2.1
  unfold maxLen at h2
  clear hgood hend hR h hg
  go_enter Tryz.func123, Tryz.ntmps123
  go_wp2_with fail
  go_loopg [8, 5] xs.length (fun gg iv _ wr => ∃ k : Nat, k + gg = xs.length ∧ k ≤ J ∧ iv = .int .i64 (k : Int) ∧ Below w.heap.size w wr)
  case atStart => exact ⟨0, by omega, Nat.zero_le _, rfl, Below.refl _ _⟩
  case round =>
    obtain ⟨k, hkg, hkJ, rfl, hbr⟩ := hrel
    cases gk with
    | zero =>
      obtain rfl : k = xs.length := by omega
      obtain rfl : R = true := by
        rcases HE.out with ⟨_, e⟩ | ⟨hj, _⟩
        · exact e
        · omega
      have HBR := Lib.hid hbr
      clear hbr
      go_wp2_with fail
      go_ret
      exact ⟨-1, rfl, rfl, HBR.out⟩
    | succ gg =>
      have hkl : k < xs.length := by omega
      obtain ⟨b, off, rfl, g0⟩ : ∃ b off, a = some ⟨b, off, none⟩ ∧ w.cell? ⟨b, off + k, none⟩ = some (.string xs[k]) := by
        rcases HH.out.2.2.2 with h | ⟨b, off, h1, _, h3⟩
        · rw [h] at hkl; simp at hkl
        · exact ⟨b, off, h1, h3 k hkl⟩
      have e0 := cellL hbr g0
      have hq := negS_any xs[k] g wr (HB.out.call hbr) (HH.out.2.2.1 _ (List.getElem_mem hkl))
      clear g0
      have hgk : k < J → (fun s : ByteArray => bwC s.data.toList) xs[k] = true := fun h => HG.out k h hkl
      have hjk : k = J → (fun s : ByteArray => bwC s.data.toList) xs[k] = false ∧ R = false := fun h => by
        rcases HE.out with ⟨e, _⟩ | ⟨hj, e, e2⟩
        · omega
        · subst h; exact ⟨e, e2⟩
      generalize xs[k] = x at *
      have HQ := Lib.hid hq
      have HBR := Lib.hid hbr
      clear hbr hq
      by_cases hk : k < J
      · rw [hgk hk] at HQ
        clear hgk hjk
        go_wp2_with (go_at_call 85; refine HQ.out.mono ?_; rintro e w2 ⟨rfl, hb2⟩)
        go_roundg gg
        case measure => omega
        case rel => exact ⟨k + 1, by omega, by omega, by go_num, bthen HBR.out hb2⟩
      · obtain ⟨e3, rfl⟩ := hjk (by omega)
        rw [e3] at HQ
        clear hgk hjk e3
        go_wp2_with (go_at_call 85; refine HQ.out.mono ?_; rintro e w2 ⟨rfl, hb2⟩)
        go_ret
        exact ⟨(k : Int), rfl, by simp, bthen HBR.out hb2⟩
theorem conS_any (a : Option Addr) (c : Nat) (xs : List ByteArray) (g : Nat) (w : World) (h : HasStrs w a c xs) (hg : Blk w g 39 #[.func (.func 37) #[] #[]]) :
    Calls Tryz.prog 86 #[.slice a xs.length c, .func (.func 85) #[] #[.pointer (some ⟨g, 0, none⟩)]] w (BoolB (!(xs.all (fun s : ByteArray => bwC s.data.toList))) w) := by
  have hi := idxS_any a c xs g w h hg
  generalize xs.all (fun s : ByteArray => bwC s.data.toList) = R at *
  have HI := Lib.hid hi
  clear hi h hg
  go_enter Tryz.func86, Tryz.ntmps86
  go_wp2_with (go_at_call 123; refine HI.out.mono ?_; rintro e w2 ⟨n, rfl, hn, hb2⟩)
  go_ret
  exact ⟨by first | rfl | rw [hn], hb2⟩
set_option maxHeartbeats 1600000 in
set_option maxRecDepth 100000 in
theorem allS_any (a : Option Addr) (c : Nat) (xs : List ByteArray) (m : Nat) (w : World) (h : HasStrs w a c xs) :
    Calls Tryz.prog 36 #[.slice a xs.length c, .int .i64 (m : Int), .func (.func 37) #[] #[]] w (BoolB (decide (xs.length ≤ m) && xs.all (fun s : ByteArray => bwC s.data.toList)) w) := by
  have hb := (Below.refl w.heap.size w).alloc (Nat.le_refl _) (.cells #[.func (.func 37) #[] #[]] 39)
  have hB := Blk.new w 39 #[.func (.func 37) #[] #[]]
  have hq := conS_any a c xs w.heap.size _ (h.call hb) hB
  generalize xs.all (fun s : ByteArray => bwC s.data.toList) = R at *
  have HQ := Lib.hid hq
  have HB := Lib.hid hb
  clear hq hb hB h
  by_cases h8 : xs.length ≤ m
  · rw [decide_eq_true h8]
    have d8 : decide ((xs.length : Int) ≤ (m : Int)) = true := decide_eq_true (by omega)
    have d9 : decide (xs.length ≤ m) = true := decide_eq_true h8
    clear h8
    go_enter Tryz.func36, Tryz.ntmps36
    go_upto_region 1 with fail
    generalize w.alloc (.cells #[.func (.func 37) #[] #[]] 39) = wx at *
    go_wp2_with (go_at_call 86; refine HQ.out.mono ?_; rintro e w2 ⟨rfl, hb2⟩)
    go_ret
    exact ⟨by cases R <;> rfl, bthen HB.out hb2⟩
  · rw [decide_eq_false h8]
    have d8 : decide ((xs.length : Int) ≤ (m : Int)) = false := decide_eq_false (by omega)
    have d9 : decide (xs.length ≤ m) = false := decide_eq_false h8
    clear h8
    go_enter Tryz.func36, Tryz.ntmps36
    go_upto_region 1 with fail
    generalize w.alloc (.cells #[.func (.func 37) #[] #[]] 39) = wx at *
    go_wp2_with fail
    go_ret
    exact ⟨rfl, HB.out⟩
set_option maxHeartbeats 1600000 in
set_option maxRecDepth 100000 in
theorem negR_any (x : RuA) (g : Nat) (w : World) (hg : Blk w g 68 #[.func (.func 33) #[] #[]]) (hx : RuA.ok w x) : Calls Tryz.prog 79 #[.agg #[.string x.r.name, .string x.r.metric, .int .i64 x.r.how, .int .i64 x.r.limit, .int .i64 x.r.fr, .int .i64 x.r.keep, .int .i64 x.r.tries, .slice x.a x.r.labels.length x.c], .pointer (some ⟨g, 0, none⟩)] w (BoolB (!RuA.good x) w) := by
  have hb := (Below.refl w.heap.size w).alloc (Nat.le_refl _) (.cells #[.string x.r.name, .string x.r.metric, .int .i64 x.r.how, .int .i64 x.r.limit, .int .i64 x.r.fr, .int .i64 x.r.keep, .int .i64 x.r.tries, .slice x.a x.r.labels.length x.c] 45)
  have hB := Blk.new w 45 #[.string x.r.name, .string x.r.metric, .int .i64 x.r.how, .int .i64 x.r.limit, .int .i64 x.r.fr, .int .i64 x.r.keep, .int .i64 x.r.tries, .slice x.a x.r.labels.length x.c]
  have hr : Calls Tryz.prog 33 #[.agg #[.string x.r.name, .string x.r.metric, .int .i64 x.r.how, .int .i64 x.r.limit, .int .i64 x.r.fr, .int .i64 x.r.keep, .int .i64 x.r.tries, .slice x.a x.r.labels.length x.c]] (w.alloc (.cells #[.string x.r.name, .string x.r.metric, .int .i64 x.r.how, .int .i64 x.r.limit, .int .i64 x.r.fr, .int .i64 x.r.keep, .int .i64 x.r.tries, .slice x.a x.r.labels.length x.c] 45)) (fun e w1 => e = .returned (.bool (RuA.good x)) ∧ Below (w.alloc (.cells #[.string x.r.name, .string x.r.metric, .int .i64 x.r.how, .int .i64 x.r.limit, .int .i64 x.r.fr, .int .i64 x.r.keep, .int .i64 x.r.tries, .slice x.a x.r.labels.length x.c] 45)).heap.size (w.alloc (.cells #[.string x.r.name, .string x.r.metric, .int .i64 x.r.how, .int .i64 x.r.limit, .int .i64 x.r.fr, .int .i64 x.r.keep, .int .i64 x.r.tries, .slice x.a x.r.labels.length x.c] 45)) w1) := by
    refine (show Calls Tryz.prog 33 #[.agg #[.string x.r.name, .string x.r.metric, .int .i64 x.r.how, .int .i64 x.r.limit, .int .i64 x.r.fr, .int .i64 x.r.keep, .int .i64 x.r.tries, .slice x.a x.r.labels.length x.c]] (w.alloc (.cells #[.string x.r.name, .string x.r.metric, .int .i64 x.r.how, .int .i64 x.r.limit, .int .i64 x.r.fr, .int .i64 x.r.keep, .int .i64 x.r.tries, .slice x.a x.r.labels.length x.c] 45)) (BoolB (RuA.good x) (w.alloc (.cells #[.string x.r.name, .string x.r.metric, .int .i64 x.r.how, .int .i64 x.r.limit, .int .i64 x.r.fr, .int .i64 x.r.keep, .int .i64 x.r.tries, .slice x.a x.r.labels.length x.c] 45))) from ?_).mono fun e w1 h => ?_
    · have hx := RulAt.call hx hb
      generalize w.alloc (.cells #[.string x.r.name, .string x.r.metric, .int .i64 x.r.how, .int .i64 x.r.limit, .int .i64 x.r.fr, .int .i64 x.r.keep, .int .i64 x.r.tries, .slice x.a x.r.labels.length x.c] 45) = W at *
      exact rulRight_any x.r x.a x.c W hx
    · exact h
  have hg1 := (hg.call hb).cell 0
  have c0 := hB.cell 0
  have c1 := hB.cell 1
  have c2 := hB.cell 2
  have c3 := hB.cell 3
  have c4 := hB.cell 4
  have c5 := hB.cell 5
  have c6 := hB.cell 6
  have c7 := hB.cell 7
  generalize RuA.good x = X at *
  have HB := Lib.hid hb
  have HR := Lib.hid hr
  clear hb hr hx hg hB
  go_enter Tryz.func79, Tryz.ntmps79
  go_upto_region 1 with fail
  generalize w.alloc (.cells #[.string x.r.name, .string x.r.metric, .int .i64 x.r.how, .int .i64 x.r.limit, .int .i64 x.r.fr, .int .i64 x.r.keep, .int .i64 x.r.tries, .slice x.a x.r.labels.length x.c] 45) = wx at *
  go_wp2_with (go_at_call 33; refine HR.out.mono ?_; rintro e w2 ⟨rfl, hb2⟩)
  go_ret
  exact ⟨rfl, bthen HB.out hb2⟩
set_option maxHeartbeats 3200000 in
set_option maxRecDepth 100000 in
theorem idxR_any (a : Option Addr) (c : Nat) (xs : List RuA) (g : Nat) (w : World) (h : HasRules w a c xs) (hg : Blk w g 68 #[.func (.func 33) #[] #[]]) :
    Calls Tryz.prog 119 #[.slice a xs.length c, .func (.func 79) #[] #[.pointer (some ⟨g, 0, none⟩)]] w (IdxW (xs.all RuA.good) w) := by
  obtain ⟨J, hJ, hgood, hend⟩ := all_end RuA.good xs
  obtain ⟨R, hR⟩ : ∃ R, xs.all RuA.good = R := ⟨_, rfl⟩
  rw [hR] at hend ⊢
  have HG := Lib.hid hgood
  have HE := Lib.hid hend
  have HH := Lib.hid h
  have HB := Lib.hid hg
  have h1 := h.1
  have h2 := h.2.1
  unfold maxLen at h2
  clear hgood hend hR h hg
  go_enter Tryz.func119, Tryz.ntmps119
  go_wp2_with fail
  go_loopg [8, 5] xs.length (fun gg iv _ wr => ∃ k : Nat, k + gg = xs.length ∧ k ≤ J ∧ iv = .int .i64 (k : Int) ∧ Below w.heap.size w wr)
  case atStart => exact ⟨0, by omega, Nat.zero_le _, rfl, Below.refl _ _⟩
  case round =>
    obtain ⟨k, hkg, hkJ, rfl, hbr⟩ := hrel
    cases gk with
    | zero =>
      obtain rfl : k = xs.length := by omega
      obtain rfl : R = true := by
        rcases HE.out with ⟨_, e⟩ | ⟨hj, _⟩
        · exact e
        · omega
      have HBR := Lib.hid hbr
      clear hbr
      go_wp2_with fail
      go_ret
      exact ⟨-1, rfl, rfl, HBR.out⟩
    | succ gg =>
      have hkl : k < xs.length := by omega
      obtain ⟨b, off, rfl, _, hc⟩ := HasRow.place HH.out k hkl
      have hx := HH.out.2.2.1 _ (List.getElem_mem hkl)
      have hq := negR_any xs[k] g wr (HB.out.call hbr) (RulAt.call hx hbr)
      have e0 := cellL hbr (hc 0 _ rfl)
      have e1 := cellL hbr (hc 1 _ rfl)
      have e2 := cellL hbr (hc 2 _ rfl)
      have e3 := cellL hbr (hc 3 _ rfl)
      have e4 := cellL hbr (hc 4 _ rfl)
      have e5 := cellL hbr (hc 5 _ rfl)
      have e6 := cellL hbr (hc 6 _ rfl)
      have e7 := cellL hbr (hc 7 _ rfl)
      rw [Nat.add_zero] at e0
      clear hc hx
      have hgk : k < J → RuA.good xs[k] = true := fun h => HG.out k h hkl
      have hjk : k = J → RuA.good xs[k] = false ∧ R = false := fun h => by
        rcases HE.out with ⟨e, _⟩ | ⟨hj, e, e2⟩
        · omega
        · subst h; exact ⟨e, e2⟩
      generalize xs[k] = x at *
      have HQ := Lib.hid hq
      have HBR := Lib.hid hbr
      clear hbr hq
      by_cases hk : k < J
      · rw [hgk hk] at HQ
        clear hgk hjk
        go_wp2_with (go_at_call 79; refine HQ.out.mono ?_; rintro e w2 ⟨rfl, hb2⟩)
        go_roundg gg
        case measure => omega
        case rel => exact ⟨k + 1, by omega, by omega, by go_num, bthen HBR.out hb2⟩
      · obtain ⟨e3, rfl⟩ := hjk (by omega)
        rw [e3] at HQ
        clear hgk hjk e3
        go_wp2_with (go_at_call 79; refine HQ.out.mono ?_; rintro e w2 ⟨rfl, hb2⟩)
        go_ret
        exact ⟨(k : Int), rfl, by simp, bthen HBR.out hb2⟩
theorem conR_any (a : Option Addr) (c : Nat) (xs : List RuA) (g : Nat) (w : World) (h : HasRules w a c xs) (hg : Blk w g 68 #[.func (.func 33) #[] #[]]) :
    Calls Tryz.prog 80 #[.slice a xs.length c, .func (.func 79) #[] #[.pointer (some ⟨g, 0, none⟩)]] w (BoolB (!(xs.all RuA.good)) w) := by
  have hi := idxR_any a c xs g w h hg
  generalize xs.all RuA.good = R at *
  have HI := Lib.hid hi
  clear hi h hg
  go_enter Tryz.func80, Tryz.ntmps80
  go_wp2_with (go_at_call 119; refine HI.out.mono ?_; rintro e w2 ⟨n, rfl, hn, hb2⟩)
  go_ret
  exact ⟨by first | rfl | rw [hn], hb2⟩
set_option maxHeartbeats 1600000 in
set_option maxRecDepth 100000 in
theorem allR_any (a : Option Addr) (c : Nat) (xs : List RuA) (m : Nat) (w : World) (h : HasRules w a c xs) :
    Calls Tryz.prog 32 #[.slice a xs.length c, .int .i64 (m : Int), .func (.func 33) #[] #[]] w (BoolB (decide (xs.length ≤ m) && xs.all RuA.good) w) := by
  have hb := (Below.refl w.heap.size w).alloc (Nat.le_refl _) (.cells #[.func (.func 33) #[] #[]] 68)
  have hB := Blk.new w 68 #[.func (.func 33) #[] #[]]
  have hq := conR_any a c xs w.heap.size _ (h.keep hb) hB
  generalize xs.all RuA.good = R at *
  have HQ := Lib.hid hq
  have HB := Lib.hid hb
  clear hq hb hB h
  by_cases h8 : xs.length ≤ m
  · rw [decide_eq_true h8]
    have d8 : decide ((xs.length : Int) ≤ (m : Int)) = true := decide_eq_true (by omega)
    have d9 : decide (xs.length ≤ m) = true := decide_eq_true h8
    clear h8
    go_enter Tryz.func32, Tryz.ntmps32
    go_upto_region 1 with fail
    generalize w.alloc (.cells #[.func (.func 33) #[] #[]] 68) = wx at *
    go_wp2_with (go_at_call 80; refine HQ.out.mono ?_; rintro e w2 ⟨rfl, hb2⟩)
    go_ret
    exact ⟨by cases R <;> rfl, bthen HB.out hb2⟩
  · rw [decide_eq_false h8]
    have d8 : decide ((xs.length : Int) ≤ (m : Int)) = false := decide_eq_false (by omega)
    have d9 : decide (xs.length ≤ m) = false := decide_eq_false h8
    clear h8
    go_enter Tryz.func32, Tryz.ntmps32
    go_upto_region 1 with fail
    generalize w.alloc (.cells #[.func (.func 33) #[] #[]] 68) = wx at *
    go_wp2_with fail
    go_ret
    exact ⟨rfl, HB.out⟩
set_option maxHeartbeats 1600000 in
set_option maxRecDepth 100000 in
theorem negH_any (x : HrA) (g : Nat) (w : World) (hg : Blk w g 73 #[.func (.func 41) #[] #[]]) (hx : HrA.ok w x) : Calls Tryz.prog 92 #[.agg #[.string x.n, .int .i64 x.d, .int .i64 x.f, .int .i64 x.t], .pointer (some ⟨g, 0, none⟩)] w (BoolB (!HrA.good x) w) := by
  have hb := (Below.refl w.heap.size w).alloc (Nat.le_refl _) (.cells #[.string x.n, .int .i64 x.d, .int .i64 x.f, .int .i64 x.t] 57)
  have hB := Blk.new w 57 #[.string x.n, .int .i64 x.d, .int .i64 x.f, .int .i64 x.t]
  have hr : Calls Tryz.prog 41 #[.agg #[.string x.n, .int .i64 x.d, .int .i64 x.f, .int .i64 x.t]] (w.alloc (.cells #[.string x.n, .int .i64 x.d, .int .i64 x.f, .int .i64 x.t] 57)) (fun e w1 => e = .returned (.bool (HrA.good x)) ∧ Below (w.alloc (.cells #[.string x.n, .int .i64 x.d, .int .i64 x.f, .int .i64 x.t] 57)).heap.size (w.alloc (.cells #[.string x.n, .int .i64 x.d, .int .i64 x.f, .int .i64 x.t] 57)) w1) := by
    refine (show Calls Tryz.prog 41 #[.agg #[.string x.n, .int .i64 x.d, .int .i64 x.f, .int .i64 x.t]] (w.alloc (.cells #[.string x.n, .int .i64 x.d, .int .i64 x.f, .int .i64 x.t] 57)) (BoolB (HrA.good x) (w.alloc (.cells #[.string x.n, .int .i64 x.d, .int .i64 x.f, .int .i64 x.t] 57))) from ?_).mono fun e w1 h => ?_
    · have hx := hx
      generalize w.alloc (.cells #[.string x.n, .int .i64 x.d, .int .i64 x.f, .int .i64 x.t] 57) = W at *
      exact hRight_any x.n x.d x.f x.t W hx.1
    · exact h
  have hg1 := (hg.call hb).cell 0
  have c0 := hB.cell 0
  have c1 := hB.cell 1
  have c2 := hB.cell 2
  have c3 := hB.cell 3
  generalize HrA.good x = X at *
  have HB := Lib.hid hb
  have HR := Lib.hid hr
  clear hb hr hx hg hB
  go_enter Tryz.func92, Tryz.ntmps92
  go_upto_region 1 with fail
  generalize w.alloc (.cells #[.string x.n, .int .i64 x.d, .int .i64 x.f, .int .i64 x.t] 57) = wx at *
  go_wp2_with (go_at_call 41; refine HR.out.mono ?_; rintro e w2 ⟨rfl, hb2⟩)
  go_ret
  exact ⟨rfl, bthen HB.out hb2⟩
set_option maxHeartbeats 3200000 in
set_option maxRecDepth 100000 in
theorem idxH_any (a : Option Addr) (c : Nat) (xs : List HrA) (g : Nat) (w : World) (h : HasHours w a c xs) (hg : Blk w g 73 #[.func (.func 41) #[] #[]]) :
    Calls Tryz.prog 128 #[.slice a xs.length c, .func (.func 92) #[] #[.pointer (some ⟨g, 0, none⟩)]] w (IdxW (xs.all HrA.good) w) := by
  obtain ⟨J, hJ, hgood, hend⟩ := all_end HrA.good xs
  obtain ⟨R, hR⟩ : ∃ R, xs.all HrA.good = R := ⟨_, rfl⟩
  rw [hR] at hend ⊢
  have HG := Lib.hid hgood
  have HE := Lib.hid hend
  have HH := Lib.hid h
  have HB := Lib.hid hg
  have h1 := h.1
  have h2 := h.2.1
  unfold maxLen at h2
  clear hgood hend hR h hg
  go_enter Tryz.func128, Tryz.ntmps128
  go_wp2_with fail
  go_loopg [8, 5] xs.length (fun gg iv _ wr => ∃ k : Nat, k + gg = xs.length ∧ k ≤ J ∧ iv = .int .i64 (k : Int) ∧ Below w.heap.size w wr)
  case atStart => exact ⟨0, by omega, Nat.zero_le _, rfl, Below.refl _ _⟩
  case round =>
    obtain ⟨k, hkg, hkJ, rfl, hbr⟩ := hrel
    cases gk with
    | zero =>
      obtain rfl : k = xs.length := by omega
      obtain rfl : R = true := by
        rcases HE.out with ⟨_, e⟩ | ⟨hj, _⟩
        · exact e
        · omega
      have HBR := Lib.hid hbr
      clear hbr
      go_wp2_with fail
      go_ret
      exact ⟨-1, rfl, rfl, HBR.out⟩
    | succ gg =>
      have hkl : k < xs.length := by omega
      obtain ⟨b, off, rfl, _, hc⟩ := HasRow.place HH.out k hkl
      have hx := HH.out.2.2.1 _ (List.getElem_mem hkl)
      have hq := negH_any xs[k] g wr (HB.out.call hbr) (hx)
      have e0 := cellL hbr (hc 0 _ rfl)
      have e1 := cellL hbr (hc 1 _ rfl)
      have e2 := cellL hbr (hc 2 _ rfl)
      have e3 := cellL hbr (hc 3 _ rfl)
      rw [Nat.add_zero] at e0
      clear hc hx
      have hgk : k < J → HrA.good xs[k] = true := fun h => HG.out k h hkl
      have hjk : k = J → HrA.good xs[k] = false ∧ R = false := fun h => by
        rcases HE.out with ⟨e, _⟩ | ⟨hj, e, e2⟩
        · omega
        · subst h; exact ⟨e, e2⟩
      generalize xs[k] = x at *
      have HQ := Lib.hid hq
      have HBR := Lib.hid hbr
      clear hbr hq
      by_cases hk : k < J
      · rw [hgk hk] at HQ
        clear hgk hjk
        go_wp2_with (go_at_call 92; refine HQ.out.mono ?_; rintro e w2 ⟨rfl, hb2⟩)
        go_roundg gg
        case measure => omega
        case rel => exact ⟨k + 1, by omega, by omega, by go_num, bthen HBR.out hb2⟩
      · obtain ⟨e3, rfl⟩ := hjk (by omega)
        rw [e3] at HQ
        clear hgk hjk e3
        go_wp2_with (go_at_call 92; refine HQ.out.mono ?_; rintro e w2 ⟨rfl, hb2⟩)
        go_ret
        exact ⟨(k : Int), rfl, by simp, bthen HBR.out hb2⟩
theorem conH_any (a : Option Addr) (c : Nat) (xs : List HrA) (g : Nat) (w : World) (h : HasHours w a c xs) (hg : Blk w g 73 #[.func (.func 41) #[] #[]]) :
    Calls Tryz.prog 93 #[.slice a xs.length c, .func (.func 92) #[] #[.pointer (some ⟨g, 0, none⟩)]] w (BoolB (!(xs.all HrA.good)) w) := by
  have hi := idxH_any a c xs g w h hg
  generalize xs.all HrA.good = R at *
  have HI := Lib.hid hi
  clear hi h hg
  go_enter Tryz.func93, Tryz.ntmps93
  go_wp2_with (go_at_call 128; refine HI.out.mono ?_; rintro e w2 ⟨n, rfl, hn, hb2⟩)
  go_ret
  exact ⟨by first | rfl | rw [hn], hb2⟩
set_option maxHeartbeats 1600000 in
set_option maxRecDepth 100000 in
theorem allH_any (a : Option Addr) (c : Nat) (xs : List HrA) (m : Nat) (w : World) (h : HasHours w a c xs) :
    Calls Tryz.prog 40 #[.slice a xs.length c, .int .i64 (m : Int), .func (.func 41) #[] #[]] w (BoolB (decide (xs.length ≤ m) && xs.all HrA.good) w) := by
  have hb := (Below.refl w.heap.size w).alloc (Nat.le_refl _) (.cells #[.func (.func 41) #[] #[]] 73)
  have hB := Blk.new w 73 #[.func (.func 41) #[] #[]]
  have hq := conH_any a c xs w.heap.size _ (h.keep hb) hB
  generalize xs.all HrA.good = R at *
  have HQ := Lib.hid hq
  have HB := Lib.hid hb
  clear hq hb hB h
  by_cases h8 : xs.length ≤ m
  · rw [decide_eq_true h8]
    have d8 : decide ((xs.length : Int) ≤ (m : Int)) = true := decide_eq_true (by omega)
    have d9 : decide (xs.length ≤ m) = true := decide_eq_true h8
    clear h8
    go_enter Tryz.func40, Tryz.ntmps40
    go_upto_region 1 with fail
    generalize w.alloc (.cells #[.func (.func 41) #[] #[]] 73) = wx at *
    go_wp2_with (go_at_call 93; refine HQ.out.mono ?_; rintro e w2 ⟨rfl, hb2⟩)
    go_ret
    exact ⟨by cases R <;> rfl, bthen HB.out hb2⟩
  · rw [decide_eq_false h8]
    have d8 : decide ((xs.length : Int) ≤ (m : Int)) = false := decide_eq_false (by omega)
    have d9 : decide (xs.length ≤ m) = false := decide_eq_false h8
    clear h8
    go_enter Tryz.func40, Tryz.ntmps40
    go_upto_region 1 with fail
    generalize w.alloc (.cells #[.func (.func 41) #[] #[]] 73) = wx at *
    go_wp2_with fail
    go_ret
    exact ⟨rfl, HB.out⟩
end Go.Proofs.YtmhekhilgllciaaGreat
/- Labels held against one another. -/
namespace Go.Proofs.YtmhekhilgllciaaGreat
open Go.RowKit
open Go.WideShapes (bytes_inj)


theorem lab_parts (w : World) (n v : ByteArray) : (part 9 #[.string n, .string v] 0).run Tryz.prog w = .ok (.string n) w ∧ (part 9 #[.string n, .string v] 1).run Tryz.prog w = .ok (.string v) w := by
  constructor <;> simp [go_sem]
theorem run_neq_lab (x y : Lab) (w : World) : (binOp .neq 124 (.agg #[.string x.1, .string x.2]) (.agg #[.string y.1, .string y.2])).run Tryz.prog w = .ok (.bool (!decide (x = y))) w := by
  have hd : decide (x = y) = (decide (x.1 = y.1) && decide (x.2 = y.2)) := by
    rw [Bool.eq_iff_iff, Bool.and_eq_true, decide_eq_true_iff, decide_eq_true_iff, decide_eq_true_iff]
    exact Prod.ext_iff
  rw [hd, ← toList_eq_iff, ← toList_eq_iff]
  simp [go_sem]
  by_cases h1 : x.1.toList = y.1.toList <;> by_cases h2 : x.2.toList = y.2.toList <;> simp [h1, h2]
end Go.Proofs.YtmhekhilgllciaaGreat
/- Which names are among some. -/
namespace Go.Proofs.YtmhekhilgllciaaGreat
open Go.RowKit


theorem HasLabs.some {w : World} {a : Option Addr} {c : Nat} {ls : List Lab} (h : HasLabs w a c ls) (k : Nat) (hk : k < ls.length) :
    ∃ b off, a = some ⟨b, off, none⟩ ∧ b < w.heap.size ∧ ∀ i (h : i < ls.length), w.cell? ⟨b, off + i * 2, none⟩ = some (.string ls[i].1) ∧ w.cell? ⟨b, off + i * 2 + 1, none⟩ = some (.string ls[i].2) := by
  obtain ⟨_, _, _, h4⟩ := h
  rcases h4 with rfl | h4
  · exact absurd hk (by simp)
  · exact h4

def inB (x : ByteArray) (ss : List ByteArray) : Bool := ss.any fun s => decide (s = x)
theorem inB_iff (x : ByteArray) (ss : List ByteArray) : inB x ss = true ↔ x ∈ ss := by
  simp only [inB, List.any_eq_true, decide_eq_true_eq]
  exact ⟨fun ⟨s, h, e⟩ => e ▸ h, fun h => ⟨x, h, rfl⟩⟩
end Go.Proofs.YtmhekhilgllciaaGreat
/- The contract of the library's Contains of texts. -/
namespace Go.Proofs.YtmhekhilgllciaaGreat
open Go.RowKit

theorem containsL_any (a : Option Addr) (c : Nat) (ss : List ByteArray) (x : ByteArray) (w : World) (h : HasStrs w a c ss) :
    Calls Tryz.prog 138 #[.slice a ss.length c, .string x] w fun e w' => e = .returned (.bool (inB x ss)) ∧ w = w' := by
  obtain ⟨h1, h2, h3, h4⟩ := h
  unfold maxLen at h2
  rcases h4 with rfl | ⟨b, off, rfl, hb, hc⟩
  · exact (Tryz.slices_Contains_string_empty a c x w).mono fun e w' ⟨he, hw⟩ => ⟨he, hw.symm⟩
  · refine (Tryz.slices_Contains_string b off ss.length c ss x w (Nat.le_refl _) (by omega) (fun j hj => ?_)).mono fun e w' ⟨he, hw⟩ => ⟨?_, hw.symm⟩
    · rw [hc j hj]; simp [List.getD, hj]
    · rw [he, List.take_length]
      congr 2
      rw [Bool.eq_iff_iff, Lib.containsS_iff, inB_iff]

end Go.Proofs.YtmhekhilgllciaaGreat
/- The contracts of config.each of rules and of hours, and of config.among. -/
namespace Go.Proofs.YtmhekhilgllciaaGreat
open Go.RowKit

theorem strsV_appE (a b : List ByteArray) : strsV (a ++ b) = strsV a ++ strsV b := by simp [strsV]
theorem wpList_pushStr {P : Program} (W : World) {ops : Array Oper} {rest : List Oper} {o : Oper} {a : Act} {Q : Exit → Act → World → Prop} (hgd : o.guard = none) (s x : Operand) (t : TypeId)
    (ho : o.op = .call { callee := .builtin .append, args := #[s, x], argTypes := #[t, t] })
    (base : Nat) (e : TypeId) (i : TypeInfo) (z : Value) (ht : P.underlying t = some (.slice e)) (hi : P.info? e = some i) (hz : i.zero = some z) (hsize : i.size = 1) (hby : i.bytes = 16) (hzs : z.cells.size = 1)
    (v : Value) (ss : List ByteArray) (l : ByteArray) (hs : a.eval s = v) (hown : OwnS e W base v ss)
    (hx : a.eval x = .slice (some ⟨W.heap.size, 0, none⟩) 1 1) (h63 : ss.length ≤ 1000000) (hbase : base ≤ W.heap.size)
    (h : ∀ (v' : Value) (w' : World), OwnS e w' base v' (ss ++ [l]) → W.grownBy w' v.ownBlock → wpList P ops Q rest (a.put o.dst v') w') :
    wpList P ops Q (o :: rest) a (W.alloc (.cells #[.string l] e)) := by
  refine wpList_push W hgd s x t ho base e i z 16 ht hi hz hsize hby hzs v ss.length (strsV ss) hs hown (.string l) hx rfl (by unfold maxLen; omega) (by omega) hbase ?_
  intro g c w' hown' hg
  refine h _ w' ?_ hg
  unfold OwnS
  rw [List.length_append, strsV_appE]
  exact hown'
def RuA.name (x : RuA) : ByteArray := x.r.name
theorem ruleName_any (x : RuA) (w : World) : Calls Tryz.prog 16 #[.agg #[.string x.r.name, .string x.r.metric, .int .i64 x.r.how, .int .i64 x.r.limit, .int .i64 x.r.fr, .int .i64 x.r.keep, .int .i64 x.r.tries, .slice x.a x.r.labels.length x.c]] w (fun e w' => e = .returned (.string x.r.name) ∧ ∃ os, w' = Go.Sort.grow w os) := by
  go_enter Tryz.func16, Tryz.ntmps16
  have c0 := (Blk.new w 45 #[.string x.r.name, .string x.r.metric, .int .i64 x.r.how, .int .i64 x.r.limit, .int .i64 x.r.fr, .int .i64 x.r.keep, .int .i64 x.r.tries, .slice x.a x.r.labels.length x.c]).cell 0
  go_wp2_with fail
  go_ret
  exact ⟨rfl, _, Go.Sort.alloc_eq_grow w _⟩
set_option maxHeartbeats 3200000 in
set_option maxRecDepth 100000 in
theorem eachR_any (a : Option Addr) (c : Nat) (xs : List RuA) (w : World) (h : HasRules w a c xs) (h8 : xs.length ≤ 1000000) :
    Calls Tryz.prog 35 #[.slice a xs.length c, .func (.func 16) #[] #[]] w (fun e w' => ∃ v, e = .returned v ∧ OwnS 9 w' w.heap.size v (xs.map RuA.name) ∧ Below w.heap.size w w') := by
  obtain ⟨i0, hi, hz0, hz1, hz2⟩ := info_parts Tryz.infoS
  have HH := Lib.hid h
  have h1 := h.1
  have h2 := h.2.1
  unfold maxLen at h2
  clear h
  go_enter Tryz.func35, Tryz.ntmps35
  go_wp2_with fail
  go_loopg [10, 5, 7] xs.length (fun gg iv v _ wr => ∃ (V : Value) (k : Nat), V = v ∧ k + gg = xs.length ∧ iv = .int .i64 (k : Int) ∧ OwnS 9 wr w.heap.size V ((xs.take k).map RuA.name) ∧ Below w.heap.size w wr ∧ w.heap.size ≤ wr.heap.size)
  case atStart => exact ⟨_, 0, rfl, by omega, rfl, OwnS.nil _ _ _, Below.refl _ _, Nat.le_refl _⟩
  case round =>
    obtain ⟨V, k, rfl, hkg, rfl, hown, hbr, hzr⟩ := hrel
    cases gk with
    | zero =>
      obtain rfl : k = xs.length := by omega
      rw [List.take_length] at hown
      have HO := Lib.hid hown
      have HBR := Lib.hid hbr
      clear hown hbr
      go_wp2_with fail
      go_ret
      exact ⟨V, rfl, HO.out, HBR.out⟩
    | succ gg =>
      have hkl : k < xs.length := by omega
      obtain ⟨b, off, rfl, _, hc⟩ := HasRow.place HH.out k hkl
      have e0 := cellL hbr (hc 0 _ rfl)
      have e1 := cellL hbr (hc 1 _ rfl)
      have e2 := cellL hbr (hc 2 _ rfl)
      have e3 := cellL hbr (hc 3 _ rfl)
      have e4 := cellL hbr (hc 4 _ rfl)
      have e5 := cellL hbr (hc 5 _ rfl)
      have e6 := cellL hbr (hc 6 _ rfl)
      have e7 := cellL hbr (hc 7 _ rfl)
      rw [Nat.add_zero] at e0
      clear hc
      have hts : (xs.take (k + 1)).map RuA.name = (xs.take k).map RuA.name ++ [xs[k].r.name] := by
        rw [List.take_succ_eq_append_getElem hkl, List.map_append]; rfl
      have hll : ((xs.take k).map RuA.name).length ≤ 1000000 := by simp; omega
      have HTS := Lib.hid hts
      clear hts
      obtain ⟨x, hx⟩ : ∃ x, xs[k] = x := ⟨_, rfl⟩
      rw [hx] at HTS
      simp only [hx] at e0 e1 e2 e3 e4 e5 e6 e7
      clear hx
      have hbn := (Below.refl wr.heap.size wr).alloc (Nat.le_refl _) (.cells #[.string x.r.name, .string x.r.metric, .int .i64 x.r.how, .int .i64 x.r.limit, .int .i64 x.r.fr, .int .i64 x.r.keep, .int .i64 x.r.tries, .slice x.a x.r.labels.length x.c] 45)
      have hN := Blk.new wr 45 #[.string x.r.name, .string x.r.metric, .int .i64 x.r.how, .int .i64 x.r.limit, .int .i64 x.r.fr, .int .i64 x.r.keep, .int .i64 x.r.tries, .slice x.a x.r.labels.length x.c]
      have f0 := hN.cell 0
      have f1 := hN.cell 1
      have f2 := hN.cell 2
      have f3 := hN.cell 3
      have f4 := hN.cell 4
      have f5 := hN.cell 5
      have f6 := hN.cell 6
      have f7 := hN.cell 7
      have hownn := hown.call hbn
      have hbrn := hbr.trans (hbn.mono hzr)
      have hzn := Nat.le_trans hzr hbn.size
      have hcall := (ruleName_any x (wr.alloc (.cells #[.string x.r.name, .string x.r.metric, .int .i64 x.r.how, .int .i64 x.r.limit, .int .i64 x.r.fr, .int .i64 x.r.keep, .int .i64 x.r.tries, .slice x.a x.r.labels.length x.c] 45))).mono (fun e w' h => (show e = .returned (.string x.r.name) ∧ Below (wr.alloc (.cells #[.string x.r.name, .string x.r.metric, .int .i64 x.r.how, .int .i64 x.r.limit, .int .i64 x.r.fr, .int .i64 x.r.keep, .int .i64 x.r.tries, .slice x.a x.r.labels.length x.c] 45)).heap.size (wr.alloc (.cells #[.string x.r.name, .string x.r.metric, .int .i64 x.r.how, .int .i64 x.r.limit, .int .i64 x.r.fr, .int .i64 x.r.keep, .int .i64 x.r.tries, .slice x.a x.r.labels.length x.c] 45)) w' from ⟨h.1, by obtain ⟨os, hw⟩ := h.2; rw [hw]; exact below_grow _ _⟩))
      have HCA := Lib.hid hcall
      generalize (xs.take k).map RuA.name = M at *
      clear hN hbn hown hbr hcall
      go_upto_region 5 with fail
      generalize wr.alloc (.cells #[.string x.r.name, .string x.r.metric, .int .i64 x.r.how, .int .i64 x.r.limit, .int .i64 x.r.fr, .int .i64 x.r.keep, .int .i64 x.r.tries, .slice x.a x.r.labels.length x.c] 45) = wn at *
      clear e0 e1 e2 e3 e4 e5 e6 e7
      go_wp2_with (first
        | (go_at_call 16; refine HCA.out.mono ?_; rintro e w3 ⟨rfl, hb3⟩; have ho3 := hownn.call hb3; have hz3 := Nat.le_trans hzn hb3.size)
        | (refine wpList_pushStr w3 (by rfl) (.tmp 14) (.tmp 18) 24 (by rfl) w.heap.size 9 i0 (.string ⟨#[]⟩) Tryz.underlying24 hi hz0 hz1 hz2 rfl V M x.r.name (by rfl) ho3 (by rfl) hll hz3 ?_; intro v4 w4 ho4 hg4))
      have hb4 := ho3.grown (hbrn.trans (hb3.mono hzn)) (Nat.le_refl _) hz3 hg4
      go_roundg gg
      case measure => omega
      case rel => exact ⟨v4, k + 1, rfl, by omega, by go_num, by rw [HTS.out]; exact ho4, hb4, Nat.le_trans hz3 hg4.size⟩
theorem hoursName_any (x : HrA) (w : World) : Calls Tryz.prog 24 #[.agg #[.string x.n, .int .i64 x.d, .int .i64 x.f, .int .i64 x.t]] w (fun e w' => e = .returned (.string x.n) ∧ ∃ os, w' = Go.Sort.grow w os) := by
  go_enter Tryz.func24, Tryz.ntmps24
  have c0 := (Blk.new w 57 #[.string x.n, .int .i64 x.d, .int .i64 x.f, .int .i64 x.t]).cell 0
  go_wp2_with fail
  go_ret
  exact ⟨rfl, _, Go.Sort.alloc_eq_grow w _⟩
set_option maxHeartbeats 3200000 in
set_option maxRecDepth 100000 in
theorem eachH_any (a : Option Addr) (c : Nat) (xs : List HrA) (w : World) (h : HasHours w a c xs) (h8 : xs.length ≤ 1000000) :
    Calls Tryz.prog 42 #[.slice a xs.length c, .func (.func 24) #[] #[]] w (fun e w' => ∃ v, e = .returned v ∧ OwnS 9 w' w.heap.size v (xs.map HrA.n) ∧ Below w.heap.size w w') := by
  obtain ⟨i0, hi, hz0, hz1, hz2⟩ := info_parts Tryz.infoS
  have HH := Lib.hid h
  have h1 := h.1
  have h2 := h.2.1
  unfold maxLen at h2
  clear h
  go_enter Tryz.func42, Tryz.ntmps42
  go_wp2_with fail
  go_loopg [10, 5, 7] xs.length (fun gg iv v _ wr => ∃ (V : Value) (k : Nat), V = v ∧ k + gg = xs.length ∧ iv = .int .i64 (k : Int) ∧ OwnS 9 wr w.heap.size V ((xs.take k).map HrA.n) ∧ Below w.heap.size w wr ∧ w.heap.size ≤ wr.heap.size)
  case atStart => exact ⟨_, 0, rfl, by omega, rfl, OwnS.nil _ _ _, Below.refl _ _, Nat.le_refl _⟩
  case round =>
    obtain ⟨V, k, rfl, hkg, rfl, hown, hbr, hzr⟩ := hrel
    cases gk with
    | zero =>
      obtain rfl : k = xs.length := by omega
      rw [List.take_length] at hown
      have HO := Lib.hid hown
      have HBR := Lib.hid hbr
      clear hown hbr
      go_wp2_with fail
      go_ret
      exact ⟨V, rfl, HO.out, HBR.out⟩
    | succ gg =>
      have hkl : k < xs.length := by omega
      obtain ⟨b, off, rfl, _, hc⟩ := HasRow.place HH.out k hkl
      have e0 := cellL hbr (hc 0 _ rfl)
      have e1 := cellL hbr (hc 1 _ rfl)
      have e2 := cellL hbr (hc 2 _ rfl)
      have e3 := cellL hbr (hc 3 _ rfl)
      rw [Nat.add_zero] at e0
      clear hc
      have hts : (xs.take (k + 1)).map HrA.n = (xs.take k).map HrA.n ++ [xs[k].n] := by
        rw [List.take_succ_eq_append_getElem hkl, List.map_append]; rfl
      have hll : ((xs.take k).map HrA.n).length ≤ 1000000 := by simp; omega
      have HTS := Lib.hid hts
      clear hts
      obtain ⟨x, hx⟩ : ∃ x, xs[k] = x := ⟨_, rfl⟩
      rw [hx] at HTS
      simp only [hx] at e0 e1 e2 e3
      clear hx
      have hbn := (Below.refl wr.heap.size wr).alloc (Nat.le_refl _) (.cells #[.string x.n, .int .i64 x.d, .int .i64 x.f, .int .i64 x.t] 57)
      have hN := Blk.new wr 57 #[.string x.n, .int .i64 x.d, .int .i64 x.f, .int .i64 x.t]
      have f0 := hN.cell 0
      have f1 := hN.cell 1
      have f2 := hN.cell 2
      have f3 := hN.cell 3
      have hownn := hown.call hbn
      have hbrn := hbr.trans (hbn.mono hzr)
      have hzn := Nat.le_trans hzr hbn.size
      have hcall := (hoursName_any x (wr.alloc (.cells #[.string x.n, .int .i64 x.d, .int .i64 x.f, .int .i64 x.t] 57))).mono (fun e w' h => (show e = .returned (.string x.n) ∧ Below (wr.alloc (.cells #[.string x.n, .int .i64 x.d, .int .i64 x.f, .int .i64 x.t] 57)).heap.size (wr.alloc (.cells #[.string x.n, .int .i64 x.d, .int .i64 x.f, .int .i64 x.t] 57)) w' from ⟨h.1, by obtain ⟨os, hw⟩ := h.2; rw [hw]; exact below_grow _ _⟩))
      have HCA := Lib.hid hcall
      generalize (xs.take k).map HrA.n = M at *
      clear hN hbn hown hbr hcall
      go_upto_region 5 with fail
      generalize wr.alloc (.cells #[.string x.n, .int .i64 x.d, .int .i64 x.f, .int .i64 x.t] 57) = wn at *
      clear e0 e1 e2 e3
      go_wp2_with (first
        | (go_at_call 24; refine HCA.out.mono ?_; rintro e w3 ⟨rfl, hb3⟩; have ho3 := hownn.call hb3; have hz3 := Nat.le_trans hzn hb3.size)
        | (refine wpList_pushStr w3 (by rfl) (.tmp 14) (.tmp 18) 24 (by rfl) w.heap.size 9 i0 (.string ⟨#[]⟩) Tryz.underlying24 hi hz0 hz1 hz2 rfl V M x.n (by rfl) ho3 (by rfl) hll hz3 ?_; intro v4 w4 ho4 hg4))
      have hb4 := ho3.grown (hbrn.trans (hb3.mono hzn)) (Nat.le_refl _) hz3 hg4
      go_roundg gg
      case measure => omega
      case rel => exact ⟨v4, k + 1, rfl, by omega, by go_num, by rw [HTS.out]; exact ho4, hb4, Nat.le_trans hz3 hg4.size⟩

/-- all of some words are in a list -/
def amongB (xs ls : List ByteArray) : Bool := xs.all (fun x => inB x ls)
theorem negA_any (x : ByteArray) (g : Nat) (a : Option Addr) (c : Nat) (ls : List ByteArray) (w : World) (hg : Blk w g 24 #[.slice a ls.length c]) (hl : HasStrs w a c ls) :
    Calls Tryz.prog 137 #[.string x, .pointer (some ⟨g, 0, none⟩)] w (BoolB (!inB x ls) w) := by
  have hr := containsL_any a c ls x w hl
  have hg1 := hg.cell 0
  generalize inB x ls = X at *
  have HR := Lib.hid hr
  clear hr hg hl
  go_enter Tryz.func137, Tryz.ntmps137
  go_wp2_with (go_at_call 138; refine HR.out.mono ?_; rintro e w2 ⟨rfl, rfl⟩)
  go_ret
  exact ⟨rfl, Below.refl _ _⟩
set_option maxHeartbeats 3200000 in
set_option maxRecDepth 100000 in
theorem idxA_any (a : Option Addr) (c : Nat) (xs : List ByteArray) (g : Nat) (la : Option Addr) (lc : Nat) (ls : List ByteArray) (w : World) (h : HasStrs w a c xs) (hg : Blk w g 24 #[.slice la ls.length lc]) (hl : HasStrs w la lc ls) :
    Calls Tryz.prog 123 #[.slice a xs.length c, .func (.func 137) #[] #[.pointer (some ⟨g, 0, none⟩)]] w (IdxW (amongB xs ls) w) := by
  obtain ⟨J, hJ, hgood, hend⟩ := all_end (fun x => inB x ls) xs
  obtain ⟨R, hR⟩ : ∃ R, amongB xs ls = R := ⟨_, rfl⟩
  rw [show xs.all (fun x => inB x ls) = R from hR] at hend
  rw [hR]
  have HG := Lib.hid hgood
  have HE := Lib.hid hend
  have HH := Lib.hid h
  have HB := Lib.hid hg
  have HL := Lib.hid hl
  have h1 := h.1
  have h2 := h.2.1
  unfold maxLen at h2
  clear hgood hend hR h hg hl
  go_enter Tryz.func123, Tryz.ntmps123
  go_wp2_with fail
  go_loopg [8, 5] xs.length (fun gg iv _ wr => ∃ k : Nat, k + gg = xs.length ∧ k ≤ J ∧ iv = .int .i64 (k : Int) ∧ Below w.heap.size w wr)
  case atStart => exact ⟨0, by omega, Nat.zero_le _, rfl, Below.refl _ _⟩
  case round =>
    obtain ⟨k, hkg, hkJ, rfl, hbr⟩ := hrel
    cases gk with
    | zero =>
      obtain rfl : k = xs.length := by omega
      obtain rfl : R = true := by
        rcases HE.out with ⟨_, e⟩ | ⟨hj, _⟩
        · exact e
        · omega
      have HBR := Lib.hid hbr
      clear hbr
      go_wp2_with fail
      go_ret
      exact ⟨-1, rfl, rfl, HBR.out⟩
    | succ gg =>
      have hkl : k < xs.length := by omega
      obtain ⟨b, off, rfl, g0⟩ : ∃ b off, a = some ⟨b, off, none⟩ ∧ w.cell? ⟨b, off + k, none⟩ = some (.string xs[k]) := by
        rcases HH.out.2.2.2 with h | ⟨b, off, h1, _, h3⟩
        · rw [h] at hkl; simp at hkl
        · exact ⟨b, off, h1, h3 k hkl⟩
      have e0 := cellL hbr g0
      have hq := negA_any xs[k] g la lc ls wr (HB.out.call hbr) (HL.out.call hbr)
      clear g0
      have hgk : k < J → inB xs[k] ls = true := fun h => HG.out k h hkl
      have hjk : k = J → inB xs[k] ls = false ∧ R = false := fun h => by
        rcases HE.out with ⟨e, _⟩ | ⟨hj, e, e2⟩
        · omega
        · subst h; exact ⟨e, e2⟩
      generalize xs[k] = x at *
      have HQ := Lib.hid hq
      have HBR := Lib.hid hbr
      clear hbr hq
      by_cases hk : k < J
      · rw [hgk hk] at HQ
        clear hgk hjk
        go_wp2_with (go_at_call 137; refine HQ.out.mono ?_; rintro e w2 ⟨rfl, hb2⟩)
        go_roundg gg
        case measure => omega
        case rel => exact ⟨k + 1, by omega, by omega, by go_num, bthen HBR.out hb2⟩
      · obtain ⟨e3, rfl⟩ := hjk (by omega)
        rw [e3] at HQ
        clear hgk hjk e3
        go_wp2_with (go_at_call 137; refine HQ.out.mono ?_; rintro e w2 ⟨rfl, hb2⟩)
        go_ret
        exact ⟨(k : Int), rfl, by simp, bthen HBR.out hb2⟩
theorem conA_any (a : Option Addr) (c : Nat) (xs : List ByteArray) (g : Nat) (la : Option Addr) (lc : Nat) (ls : List ByteArray) (w : World) (h : HasStrs w a c xs) (hg : Blk w g 24 #[.slice la ls.length lc]) (hl : HasStrs w la lc ls) :
    Calls Tryz.prog 86 #[.slice a xs.length c, .func (.func 137) #[] #[.pointer (some ⟨g, 0, none⟩)]] w (BoolB (!amongB xs ls) w) := by
  have hi := idxA_any a c xs g la lc ls w h hg hl
  generalize amongB xs ls = R at *
  have HI := Lib.hid hi
  clear hi h hg hl
  go_enter Tryz.func86, Tryz.ntmps86
  go_wp2_with (go_at_call 123; refine HI.out.mono ?_; rintro e w2 ⟨n, rfl, hn, hb2⟩)
  go_ret
  exact ⟨by first | rfl | rw [hn], hb2⟩
set_option maxHeartbeats 1600000 in
set_option maxRecDepth 100000 in
theorem among_any (a : Option Addr) (c : Nat) (xs : List ByteArray) (la : Option Addr) (lc : Nat) (ls : List ByteArray) (w : World) (h : HasStrs w a c xs) (hl : HasStrs w la lc ls) :
    Calls Tryz.prog 98 #[.slice a xs.length c, .slice la ls.length lc] w (BoolB (amongB xs ls) w) := by
  have hb := (Below.refl w.heap.size w).alloc (Nat.le_refl _) (.cells #[.slice la ls.length lc] 24)
  have hB := Blk.new w 24 #[.slice la ls.length lc]
  have hq := conA_any a c xs w.heap.size la lc ls _ (h.call hb) hB (hl.call hb)
  generalize amongB xs ls = R at *
  have HQ := Lib.hid hq
  have HB := Lib.hid hb
  clear hq hb hB h hl
  go_enter Tryz.func98, Tryz.ntmps98
  go_upto_region 1 with fail
  generalize w.alloc (.cells #[.slice la ls.length lc] 24) = wx at *
  go_wp2_with (go_at_call 86; refine HQ.out.mono ?_; rintro e w2 ⟨rfl, hb2⟩)
  go_ret
  exact ⟨by cases R <;> rfl, bthen HB.out hb2⟩
end Go.Proofs.YtmhekhilgllciaaGreat
