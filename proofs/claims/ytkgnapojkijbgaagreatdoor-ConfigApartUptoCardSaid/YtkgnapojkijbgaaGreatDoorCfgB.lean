/- The contracts of config.rightAll, of matchers, texts, rules and hours. -/
import Derived.Test.YtkgnapojkijbgaaGreatDoorCfgA
import Derived.Test.YtkgnapojkijbgaaGreatDoorRteB
import Derived.Test.YtkgnapojkijbgaaGreatDoorHrsA
namespace Go.Proofs.YtkgnapojkijbgaaGreatDoor
open Go.RowKit

theorem cfgWord_any (s : ByteArray) (w : World) (hs : s.size ≤ maxLen) : Calls Tryz.prog 55 #[.string s] w (BoolB (bwC s.data.toList) w) := by
  have hb := (Below.refl w.heap.size w).alloc (Nat.le_refl _) (.cells #[.string s, .slice none 0 0, .slice none 0 0] 130)
  have hB := Blk.new w 130 #[.string s, .slice none 0 0, .slice none 0 0]
  have hd : HasDefs (w.alloc (.cells #[.string s, .slice none 0 0, .slice none 0 0] 130)) (some ⟨w.heap.size, 0, none⟩) 1 [⟨s, [], []⟩] := by
    refine ⟨Nat.le_refl _, by unfold maxLen; omega, .inr ⟨_, _, rfl, hB.lt, fun i hi => ?_⟩⟩
    obtain rfl : i = 0 := by simpa using hi
    refine ⟨⟨⟨s, [], []⟩, none, 0, none, 0⟩, rfl, ⟨hB.cell 0, hB.cell 1, hB.cell 2⟩, HasStrs.nil _ _ _ (Nat.zero_le _), HasStrs.nil _ _ _ (Nat.zero_le _), hs⟩
  have hr := bRight_any _ _ _ _ hd
  rw [word_defsR] at hr
  go_enter Tryz.func55, Tryz.ntmps55
  go_wp2_with (go_at_call 109; refine hr.mono ?_; rintro e w2 ⟨rfl, hb2⟩)
  go_ret
  exact ⟨rfl, bthen hb hb2⟩
set_option maxHeartbeats 1600000 in
set_option maxRecDepth 100000 in
theorem negM_any (xa : Option Addr) (xc : Nat) (x : Mat) (g : Nat) (w : World) (hg : Blk w g 170 #[.func (.func 170) #[] #[]]) (hx : HasMat w (.agg (matCells xa xc x)) x) : Calls Tryz.prog 210 #[.agg #[.string x.name, .int .i64 x.how, .slice xa x.words.length xc], .pointer (some ⟨g, 0, none⟩)] w (BoolB (!rightM x) w) := by
  have hb := (Below.refl w.heap.size w).alloc (Nat.le_refl _) (.cells #[.string x.name, .int .i64 x.how, .slice xa x.words.length xc] 109)
  have hB := Blk.new w 109 #[.string x.name, .int .i64 x.how, .slice xa x.words.length xc]
  have hr : Calls Tryz.prog 170 #[.agg #[.string x.name, .int .i64 x.how, .slice xa x.words.length xc]] (w.alloc (.cells #[.string x.name, .int .i64 x.how, .slice xa x.words.length xc] 109)) (fun e w1 => e = .returned (.bool (rightM x)) ∧ Below (w.alloc (.cells #[.string x.name, .int .i64 x.how, .slice xa x.words.length xc] 109)).heap.size (w.alloc (.cells #[.string x.name, .int .i64 x.how, .slice xa x.words.length xc] 109)) w1) := by
    refine (show Calls Tryz.prog 170 #[.agg #[.string x.name, .int .i64 x.how, .slice xa x.words.length xc]] (w.alloc (.cells #[.string x.name, .int .i64 x.how, .slice xa x.words.length xc] 109)) (BoolB (rightM x) (w.alloc (.cells #[.string x.name, .int .i64 x.how, .slice xa x.words.length xc] 109))) from ?_).mono fun e w1 h => ?_
    · have hx := hx.call hb
      generalize w.alloc (.cells #[.string x.name, .int .i64 x.how, .slice xa x.words.length xc] 109) = W at *
      exact mRight_any _ x W hx
    · exact h
  have hg1 := (hg.call hb).cell 0
  have c0 := hB.cell 0
  have c1 := hB.cell 1
  have c2 := hB.cell 2
  generalize rightM x = X at *
  have HB := Lib.hid hb
  have HR := Lib.hid hr
  clear hb hr hx hg hB
  go_enter Tryz.func210, Tryz.ntmps210
  go_upto_region 1 with fail
  generalize w.alloc (.cells #[.string x.name, .int .i64 x.how, .slice xa x.words.length xc] 109) = wx at *
  go_wp2_with (go_at_call 170; refine HR.out.mono ?_; rintro e w2 ⟨rfl, hb2⟩)
  go_ret
  exact ⟨rfl, bthen HB.out hb2⟩
set_option maxHeartbeats 3200000 in
set_option maxRecDepth 100000 in
theorem idxM_any (a : Option Addr) (c : Nat) (xs : List Mat) (g : Nat) (w : World) (h : HasMats w a c xs) (hg : Blk w g 170 #[.func (.func 170) #[] #[]]) :
    Calls Tryz.prog 270 #[.slice a xs.length c, .func (.func 210) #[] #[.pointer (some ⟨g, 0, none⟩)]] w (IdxW (xs.all rightM) w) := by
  obtain ⟨J, hJ, hgood, hend⟩ := all_end rightM xs
  obtain ⟨R, hR⟩ : ∃ R, xs.all rightM = R := ⟨_, rfl⟩
  rw [hR] at hend ⊢
  have HG := Lib.hid hgood
  have HE := Lib.hid hend
  have HH := Lib.hid h
  have HB := Lib.hid hg
  have h1 := h.1
  have h2 := h.2.1
  unfold maxLen at h2
  clear hgood hend hR h hg
  go_enter Tryz.func270, Tryz.ntmps270
  go_wp2_with fail
  go_loopg [8, 5] xs.length (fun gg iv _ wr => ∃ k : Nat, k + gg = xs.length ∧ k ≤ J ∧ iv = .int .i64 (k : Int) ∧ Below w.heap.size w wr)
  case atStart => exact ⟨0, by omega, Nat.zero_le _, rfl, Below.refl _ _⟩
  case round =>
    obtain ⟨k, hkg, hkJ, rfl, hbr⟩ := hrel
    cases gk with
    | zero =>
      obtain rfl : k = xs.length := by omega
      obtain rfl : R = true := by
        rcases HE.out with ⟨_, e⟩ | ⟨hj, _⟩
        · exact e
        · omega
      have HBR := Lib.hid hbr
      clear hbr
      go_wp2_with fail
      go_ret
      exact ⟨-1, rfl, rfl, HBR.out⟩
    | succ gg =>
      have hkl : k < xs.length := by omega
      obtain ⟨b, off, rfl, xa, xc, ⟨g0, g1, g2⟩, g3, g4, g5⟩ : ∃ b off, a = some ⟨b, off, none⟩ ∧ ∃ x y,
          (w.cell? ⟨b, off + k * 3, none⟩ = some (.string xs[k].name) ∧ w.cell? ⟨b, off + k * 3 + 1, none⟩ = some (.int .i64 xs[k].how) ∧ w.cell? ⟨b, off + k * 3 + 2, none⟩ = some (.slice x xs[k].words.length y)) ∧ HasStrs w x y xs[k].words ∧ xs[k].name.size ≤ maxLen ∧ (Lit.int .i64 xs[k].how).wf = true := by
        rcases HH.out.2.2 with h | ⟨b, off, h1, _, h3⟩
        · rw [h] at hkl; simp at hkl
        · exact ⟨b, off, h1, h3 k hkl⟩
      have e0 := cellL hbr g0
      have e1 := cellL hbr g1
      have e2 := cellL hbr g2
      have hq := negM_any xa xc xs[k] g wr (HB.out.call hbr) ⟨xa, xc, rfl, g3.call hbr, g4, g5⟩
      clear g0 g1 g2 g3 g4 g5
      have hgk : k < J → rightM xs[k] = true := fun h => HG.out k h hkl
      have hjk : k = J → rightM xs[k] = false ∧ R = false := fun h => by
        rcases HE.out with ⟨e, _⟩ | ⟨hj, e, e2⟩
        · omega
        · subst h; exact ⟨e, e2⟩
      generalize xs[k] = x at *
      have HQ := Lib.hid hq
      have HBR := Lib.hid hbr
      clear hbr hq
      by_cases hk : k < J
      · rw [hgk hk] at HQ
        clear hgk hjk
        go_wp2_with (go_at_call 210; refine HQ.out.mono ?_; rintro e w2 ⟨rfl, hb2⟩)
        go_roundg gg
        case measure => omega
        case rel => exact ⟨k + 1, by omega, by omega, by go_num, bthen HBR.out hb2⟩
      · obtain ⟨e3, rfl⟩ := hjk (by omega)
        rw [e3] at HQ
        clear hgk hjk e3
        go_wp2_with (go_at_call 210; refine HQ.out.mono ?_; rintro e w2 ⟨rfl, hb2⟩)
        go_ret
        exact ⟨(k : Int), rfl, by simp, bthen HBR.out hb2⟩
theorem conM_any (a : Option Addr) (c : Nat) (xs : List Mat) (g : Nat) (w : World) (h : HasMats w a c xs) (hg : Blk w g 170 #[.func (.func 170) #[] #[]]) :
    Calls Tryz.prog 211 #[.slice a xs.length c, .func (.func 210) #[] #[.pointer (some ⟨g, 0, none⟩)]] w (BoolB (!(xs.all rightM)) w) := by
  have hi := idxM_any a c xs g w h hg
  generalize xs.all rightM = R at *
  have HI := Lib.hid hi
  clear hi h hg
  go_enter Tryz.func211, Tryz.ntmps211
  go_wp2_with (go_at_call 270; refine HI.out.mono ?_; rintro e w2 ⟨n, rfl, hn, hb2⟩)
  go_ret
  exact ⟨by first | rfl | rw [hn], hb2⟩
set_option maxHeartbeats 1600000 in
set_option maxRecDepth 100000 in
theorem allM_any (a : Option Addr) (c : Nat) (xs : List Mat) (m : Nat) (w : World) (h : HasMats w a c xs) :
    Calls Tryz.prog 169 #[.slice a xs.length c, .int .i64 (m : Int), .func (.func 170) #[] #[]] w (BoolB (decide (xs.length ≤ m) && xs.all rightM) w) := by
  have hb := (Below.refl w.heap.size w).alloc (Nat.le_refl _) (.cells #[.func (.func 170) #[] #[]] 170)
  have hB := Blk.new w 170 #[.func (.func 170) #[] #[]]
  have hq := conM_any a c xs w.heap.size _ (h.call hb) hB
  generalize xs.all rightM = R at *
  have HQ := Lib.hid hq
  have HB := Lib.hid hb
  clear hq hb hB h
  by_cases h8 : xs.length ≤ m
  · rw [decide_eq_true h8]
    have d8 : decide ((xs.length : Int) ≤ (m : Int)) = true := decide_eq_true (by omega)
    have d9 : decide (xs.length ≤ m) = true := decide_eq_true h8
    clear h8
    go_enter Tryz.func169, Tryz.ntmps169
    go_upto_region 1 with fail
    generalize w.alloc (.cells #[.func (.func 170) #[] #[]] 170) = wx at *
    go_wp2_with (go_at_call 211; refine HQ.out.mono ?_; rintro e w2 ⟨rfl, hb2⟩)
    go_ret
    exact ⟨by cases R <;> rfl, bthen HB.out hb2⟩
  · rw [decide_eq_false h8]
    have d8 : decide ((xs.length : Int) ≤ (m : Int)) = false := decide_eq_false (by omega)
    have d9 : decide (xs.length ≤ m) = false := decide_eq_false h8
    clear h8
    go_enter Tryz.func169, Tryz.ntmps169
    go_upto_region 1 with fail
    generalize w.alloc (.cells #[.func (.func 170) #[] #[]] 170) = wx at *
    go_wp2_with fail
    go_ret
    exact ⟨rfl, HB.out⟩
set_option maxHeartbeats 1600000 in
set_option maxRecDepth 100000 in
theorem negS_any (x : ByteArray) (g : Nat) (w : World) (hg : Blk w g 69 #[.func (.func 55) #[] #[]]) (hx : x.size ≤ maxLen) : Calls Tryz.prog 107 #[.string x, .pointer (some ⟨g, 0, none⟩)] w (BoolB (!(fun s : ByteArray => bwC s.data.toList) x) w) := by
  have hr := cfgWord_any x w hx
  have hg1 := hg.cell 0
  obtain ⟨X, hX⟩ : ∃ X, bwC x.data.toList = X := ⟨_, rfl⟩
  rw [hX] at hr
  rw [show (fun s : ByteArray => bwC s.data.toList) x = X from hX]
  have HR := Lib.hid hr
  clear hr hx hg hX
  go_enter Tryz.func107, Tryz.ntmps107
  go_wp2_with (go_at_call 55; refine HR.out.mono ?_; rintro e w2 ⟨rfl, hb2⟩)
  go_ret
  exact ⟨rfl, hb2⟩
set_option maxHeartbeats 3200000 in
set_option maxRecDepth 100000 in
theorem idxS_any (a : Option Addr) (c : Nat) (xs : List ByteArray) (g : Nat) (w : World) (h : HasStrs w a c xs) (hg : Blk w g 69 #[.func (.func 55) #[] #[]]) :
    Calls Tryz.prog 166 #[.slice a xs.length c, .func (.func 107) #[] #[.pointer (some ⟨g, 0, none⟩)]] w (IdxW (xs.all (fun s : ByteArray => bwC s.data.toList)) w) := by
  obtain ⟨J, hJ, hgood, hend⟩ := all_end (fun s : ByteArray => bwC s.data.toList) xs
  obtain ⟨R, hR⟩ : ∃ R, xs.all (fun s : ByteArray => bwC s.data.toList) = R := ⟨_, rfl⟩
  rw [hR] at hend ⊢
  have HG := Lib.hid hgood
  have HE := Lib.hid hend
  have HH := Lib.hid h
  have HB := Lib.hid hg
  have h1 := h.1
  have h2 := h.2.1
  unfold maxLen at h2
  clear hgood hend hR h hg
  go_enter Tryz.func166, Tryz.ntmps166
  go_wp2_with fail
  go_loopg [8, 5] xs.length (fun gg iv _ wr => ∃ k : Nat, k + gg = xs.length ∧ k ≤ J ∧ iv = .int .i64 (k : Int) ∧ Below w.heap.size w wr)
  case atStart => exact ⟨0, by omega, Nat.zero_le _, rfl, Below.refl _ _⟩
  case round =>
    obtain ⟨k, hkg, hkJ, rfl, hbr⟩ := hrel
    cases gk with
    | zero =>
      obtain rfl : k = xs.length := by omega
      obtain rfl : R = true := by
        rcases HE.out with ⟨_, e⟩ | ⟨hj, _⟩
        · exact e
        · omega
      have HBR := Lib.hid hbr
      clear hbr
      go_wp2_with fail
      go_ret
      exact ⟨-1, rfl, rfl, HBR.out⟩
    | succ gg =>
      have hkl : k < xs.length := by omega
      obtain ⟨b, off, rfl, g0⟩ : ∃ b off, a = some ⟨b, off, none⟩ ∧ w.cell? ⟨b, off + k, none⟩ = some (.string xs[k]) := by
        rcases HH.out.2.2.2 with h | ⟨b, off, h1, _, h3⟩
        · rw [h] at hkl; simp at hkl
        · exact ⟨b, off, h1, h3 k hkl⟩
      have e0 := cellL hbr g0
      have hq := negS_any xs[k] g wr (HB.out.call hbr) (HH.out.2.2.1 _ (List.getElem_mem hkl))
      clear g0
      have hgk : k < J → (fun s : ByteArray => bwC s.data.toList) xs[k] = true := fun h => HG.out k h hkl
      have hjk : k = J → (fun s : ByteArray => bwC s.data.toList) xs[k] = false ∧ R = false := fun h => by
        rcases HE.out with ⟨e, _⟩ | ⟨hj, e, e2⟩
        · omega
        · subst h; exact ⟨e, e2⟩
      generalize xs[k] = x at *
      have HQ := Lib.hid hq
      have HBR := Lib.hid hbr
      clear hbr hq
      by_cases hk : k < J
      · rw [hgk hk] at HQ
        clear hgk hjk
        go_wp2_with (go_at_call 107; refine HQ.out.mono ?_; rintro e w2 ⟨rfl, hb2⟩)
        go_roundg gg
        case measure => omega
        case rel => exact ⟨k + 1, by omega, by omega, by go_num, bthen HBR.out hb2⟩
      · obtain ⟨e3, rfl⟩ := hjk (by omega)
        rw [e3] at HQ
        clear hgk hjk e3
        go_wp2_with (go_at_call 107; refine HQ.out.mono ?_; rintro e w2 ⟨rfl, hb2⟩)
        go_ret
        exact ⟨(k : Int), rfl, by simp, bthen HBR.out hb2⟩
theorem conS_any (a : Option Addr) (c : Nat) (xs : List ByteArray) (g : Nat) (w : World) (h : HasStrs w a c xs) (hg : Blk w g 69 #[.func (.func 55) #[] #[]]) :
    Calls Tryz.prog 108 #[.slice a xs.length c, .func (.func 107) #[] #[.pointer (some ⟨g, 0, none⟩)]] w (BoolB (!(xs.all (fun s : ByteArray => bwC s.data.toList))) w) := by
  have hi := idxS_any a c xs g w h hg
  generalize xs.all (fun s : ByteArray => bwC s.data.toList) = R at *
  have HI := Lib.hid hi
  clear hi h hg
  go_enter Tryz.func108, Tryz.ntmps108
  go_wp2_with (go_at_call 166; refine HI.out.mono ?_; rintro e w2 ⟨n, rfl, hn, hb2⟩)
  go_ret
  exact ⟨by first | rfl | rw [hn], hb2⟩
set_option maxHeartbeats 1600000 in
set_option maxRecDepth 100000 in
theorem allS_any (a : Option Addr) (c : Nat) (xs : List ByteArray) (m : Nat) (w : World) (h : HasStrs w a c xs) :
    Calls Tryz.prog 54 #[.slice a xs.length c, .int .i64 (m : Int), .func (.func 55) #[] #[]] w (BoolB (decide (xs.length ≤ m) && xs.all (fun s : ByteArray => bwC s.data.toList)) w) := by
  have hb := (Below.refl w.heap.size w).alloc (Nat.le_refl _) (.cells #[.func (.func 55) #[] #[]] 69)
  have hB := Blk.new w 69 #[.func (.func 55) #[] #[]]
  have hq := conS_any a c xs w.heap.size _ (h.call hb) hB
  generalize xs.all (fun s : ByteArray => bwC s.data.toList) = R at *
  have HQ := Lib.hid hq
  have HB := Lib.hid hb
  clear hq hb hB h
  by_cases h8 : xs.length ≤ m
  · rw [decide_eq_true h8]
    have d8 : decide ((xs.length : Int) ≤ (m : Int)) = true := decide_eq_true (by omega)
    have d9 : decide (xs.length ≤ m) = true := decide_eq_true h8
    clear h8
    go_enter Tryz.func54, Tryz.ntmps54
    go_upto_region 1 with fail
    generalize w.alloc (.cells #[.func (.func 55) #[] #[]] 69) = wx at *
    go_wp2_with (go_at_call 108; refine HQ.out.mono ?_; rintro e w2 ⟨rfl, hb2⟩)
    go_ret
    exact ⟨by cases R <;> rfl, bthen HB.out hb2⟩
  · rw [decide_eq_false h8]
    have d8 : decide ((xs.length : Int) ≤ (m : Int)) = false := decide_eq_false (by omega)
    have d9 : decide (xs.length ≤ m) = false := decide_eq_false h8
    clear h8
    go_enter Tryz.func54, Tryz.ntmps54
    go_upto_region 1 with fail
    generalize w.alloc (.cells #[.func (.func 55) #[] #[]] 69) = wx at *
    go_wp2_with fail
    go_ret
    exact ⟨rfl, HB.out⟩
set_option maxHeartbeats 1600000 in
set_option maxRecDepth 100000 in
theorem negR_any (x : RuA) (g : Nat) (w : World) (hg : Blk w g 81 #[.func (.func 50) #[] #[]]) (hx : RuA.ok w x) : Calls Tryz.prog 101 #[.agg #[.string x.r.name, .string x.r.metric, .int .i64 x.r.how, .int .i64 x.r.limit, .int .i64 x.r.fr, .int .i64 x.r.keep, .int .i64 x.r.tries, .slice x.a x.r.labels.length x.c], .pointer (some ⟨g, 0, none⟩)] w (BoolB (!RuA.good x) w) := by
  have hb := (Below.refl w.heap.size w).alloc (Nat.le_refl _) (.cells #[.string x.r.name, .string x.r.metric, .int .i64 x.r.how, .int .i64 x.r.limit, .int .i64 x.r.fr, .int .i64 x.r.keep, .int .i64 x.r.tries, .slice x.a x.r.labels.length x.c] 44)
  have hB := Blk.new w 44 #[.string x.r.name, .string x.r.metric, .int .i64 x.r.how, .int .i64 x.r.limit, .int .i64 x.r.fr, .int .i64 x.r.keep, .int .i64 x.r.tries, .slice x.a x.r.labels.length x.c]
  have hr : Calls Tryz.prog 50 #[.agg #[.string x.r.name, .string x.r.metric, .int .i64 x.r.how, .int .i64 x.r.limit, .int .i64 x.r.fr, .int .i64 x.r.keep, .int .i64 x.r.tries, .slice x.a x.r.labels.length x.c]] (w.alloc (.cells #[.string x.r.name, .string x.r.metric, .int .i64 x.r.how, .int .i64 x.r.limit, .int .i64 x.r.fr, .int .i64 x.r.keep, .int .i64 x.r.tries, .slice x.a x.r.labels.length x.c] 44)) (fun e w1 => e = .returned (.bool (RuA.good x)) ∧ Below (w.alloc (.cells #[.string x.r.name, .string x.r.metric, .int .i64 x.r.how, .int .i64 x.r.limit, .int .i64 x.r.fr, .int .i64 x.r.keep, .int .i64 x.r.tries, .slice x.a x.r.labels.length x.c] 44)).heap.size (w.alloc (.cells #[.string x.r.name, .string x.r.metric, .int .i64 x.r.how, .int .i64 x.r.limit, .int .i64 x.r.fr, .int .i64 x.r.keep, .int .i64 x.r.tries, .slice x.a x.r.labels.length x.c] 44)) w1) := by
    refine (show Calls Tryz.prog 50 #[.agg #[.string x.r.name, .string x.r.metric, .int .i64 x.r.how, .int .i64 x.r.limit, .int .i64 x.r.fr, .int .i64 x.r.keep, .int .i64 x.r.tries, .slice x.a x.r.labels.length x.c]] (w.alloc (.cells #[.string x.r.name, .string x.r.metric, .int .i64 x.r.how, .int .i64 x.r.limit, .int .i64 x.r.fr, .int .i64 x.r.keep, .int .i64 x.r.tries, .slice x.a x.r.labels.length x.c] 44)) (BoolB (RuA.good x) (w.alloc (.cells #[.string x.r.name, .string x.r.metric, .int .i64 x.r.how, .int .i64 x.r.limit, .int .i64 x.r.fr, .int .i64 x.r.keep, .int .i64 x.r.tries, .slice x.a x.r.labels.length x.c] 44))) from ?_).mono fun e w1 h => ?_
    · have hx := RulAt.call hx hb
      generalize w.alloc (.cells #[.string x.r.name, .string x.r.metric, .int .i64 x.r.how, .int .i64 x.r.limit, .int .i64 x.r.fr, .int .i64 x.r.keep, .int .i64 x.r.tries, .slice x.a x.r.labels.length x.c] 44) = W at *
      exact rulRight_any x.r x.a x.c W hx
    · exact h
  have hg1 := (hg.call hb).cell 0
  have c0 := hB.cell 0
  have c1 := hB.cell 1
  have c2 := hB.cell 2
  have c3 := hB.cell 3
  have c4 := hB.cell 4
  have c5 := hB.cell 5
  have c6 := hB.cell 6
  have c7 := hB.cell 7
  generalize RuA.good x = X at *
  have HB := Lib.hid hb
  have HR := Lib.hid hr
  clear hb hr hx hg hB
  go_enter Tryz.func101, Tryz.ntmps101
  go_upto_region 1 with fail
  generalize w.alloc (.cells #[.string x.r.name, .string x.r.metric, .int .i64 x.r.how, .int .i64 x.r.limit, .int .i64 x.r.fr, .int .i64 x.r.keep, .int .i64 x.r.tries, .slice x.a x.r.labels.length x.c] 44) = wx at *
  go_wp2_with (go_at_call 50; refine HR.out.mono ?_; rintro e w2 ⟨rfl, hb2⟩)
  go_ret
  exact ⟨rfl, bthen HB.out hb2⟩
set_option maxHeartbeats 3200000 in
set_option maxRecDepth 100000 in
theorem idxR_any (a : Option Addr) (c : Nat) (xs : List RuA) (g : Nat) (w : World) (h : HasRules w a c xs) (hg : Blk w g 81 #[.func (.func 50) #[] #[]]) :
    Calls Tryz.prog 162 #[.slice a xs.length c, .func (.func 101) #[] #[.pointer (some ⟨g, 0, none⟩)]] w (IdxW (xs.all RuA.good) w) := by
  obtain ⟨J, hJ, hgood, hend⟩ := all_end RuA.good xs
  obtain ⟨R, hR⟩ : ∃ R, xs.all RuA.good = R := ⟨_, rfl⟩
  rw [hR] at hend ⊢
  have HG := Lib.hid hgood
  have HE := Lib.hid hend
  have HH := Lib.hid h
  have HB := Lib.hid hg
  have h1 := h.1
  have h2 := h.2.1
  unfold maxLen at h2
  clear hgood hend hR h hg
  go_enter Tryz.func162, Tryz.ntmps162
  go_wp2_with fail
  go_loopg [8, 5] xs.length (fun gg iv _ wr => ∃ k : Nat, k + gg = xs.length ∧ k ≤ J ∧ iv = .int .i64 (k : Int) ∧ Below w.heap.size w wr)
  case atStart => exact ⟨0, by omega, Nat.zero_le _, rfl, Below.refl _ _⟩
  case round =>
    obtain ⟨k, hkg, hkJ, rfl, hbr⟩ := hrel
    cases gk with
    | zero =>
      obtain rfl : k = xs.length := by omega
      obtain rfl : R = true := by
        rcases HE.out with ⟨_, e⟩ | ⟨hj, _⟩
        · exact e
        · omega
      have HBR := Lib.hid hbr
      clear hbr
      go_wp2_with fail
      go_ret
      exact ⟨-1, rfl, rfl, HBR.out⟩
    | succ gg =>
      have hkl : k < xs.length := by omega
      obtain ⟨b, off, rfl, _, hc⟩ := HasRow.place HH.out k hkl
      have hx := HH.out.2.2.1 _ (List.getElem_mem hkl)
      have hq := negR_any xs[k] g wr (HB.out.call hbr) (RulAt.call hx hbr)
      have e0 := cellL hbr (hc 0 _ rfl)
      have e1 := cellL hbr (hc 1 _ rfl)
      have e2 := cellL hbr (hc 2 _ rfl)
      have e3 := cellL hbr (hc 3 _ rfl)
      have e4 := cellL hbr (hc 4 _ rfl)
      have e5 := cellL hbr (hc 5 _ rfl)
      have e6 := cellL hbr (hc 6 _ rfl)
      have e7 := cellL hbr (hc 7 _ rfl)
      rw [Nat.add_zero] at e0
      clear hc hx
      have hgk : k < J → RuA.good xs[k] = true := fun h => HG.out k h hkl
      have hjk : k = J → RuA.good xs[k] = false ∧ R = false := fun h => by
        rcases HE.out with ⟨e, _⟩ | ⟨hj, e, e2⟩
        · omega
        · subst h; exact ⟨e, e2⟩
      generalize xs[k] = x at *
      have HQ := Lib.hid hq
      have HBR := Lib.hid hbr
      clear hbr hq
      by_cases hk : k < J
      · rw [hgk hk] at HQ
        clear hgk hjk
        go_wp2_with (go_at_call 101; refine HQ.out.mono ?_; rintro e w2 ⟨rfl, hb2⟩)
        go_roundg gg
        case measure => omega
        case rel => exact ⟨k + 1, by omega, by omega, by go_num, bthen HBR.out hb2⟩
      · obtain ⟨e3, rfl⟩ := hjk (by omega)
        rw [e3] at HQ
        clear hgk hjk e3
        go_wp2_with (go_at_call 101; refine HQ.out.mono ?_; rintro e w2 ⟨rfl, hb2⟩)
        go_ret
        exact ⟨(k : Int), rfl, by simp, bthen HBR.out hb2⟩
theorem conR_any (a : Option Addr) (c : Nat) (xs : List RuA) (g : Nat) (w : World) (h : HasRules w a c xs) (hg : Blk w g 81 #[.func (.func 50) #[] #[]]) :
    Calls Tryz.prog 102 #[.slice a xs.length c, .func (.func 101) #[] #[.pointer (some ⟨g, 0, none⟩)]] w (BoolB (!(xs.all RuA.good)) w) := by
  have hi := idxR_any a c xs g w h hg
  generalize xs.all RuA.good = R at *
  have HI := Lib.hid hi
  clear hi h hg
  go_enter Tryz.func102, Tryz.ntmps102
  go_wp2_with (go_at_call 162; refine HI.out.mono ?_; rintro e w2 ⟨n, rfl, hn, hb2⟩)
  go_ret
  exact ⟨by first | rfl | rw [hn], hb2⟩
set_option maxHeartbeats 1600000 in
set_option maxRecDepth 100000 in
theorem allR_any (a : Option Addr) (c : Nat) (xs : List RuA) (m : Nat) (w : World) (h : HasRules w a c xs) :
    Calls Tryz.prog 49 #[.slice a xs.length c, .int .i64 (m : Int), .func (.func 50) #[] #[]] w (BoolB (decide (xs.length ≤ m) && xs.all RuA.good) w) := by
  have hb := (Below.refl w.heap.size w).alloc (Nat.le_refl _) (.cells #[.func (.func 50) #[] #[]] 81)
  have hB := Blk.new w 81 #[.func (.func 50) #[] #[]]
  have hq := conR_any a c xs w.heap.size _ (h.keep hb) hB
  generalize xs.all RuA.good = R at *
  have HQ := Lib.hid hq
  have HB := Lib.hid hb
  clear hq hb hB h
  by_cases h8 : xs.length ≤ m
  · rw [decide_eq_true h8]
    have d8 : decide ((xs.length : Int) ≤ (m : Int)) = true := decide_eq_true (by omega)
    have d9 : decide (xs.length ≤ m) = true := decide_eq_true h8
    clear h8
    go_enter Tryz.func49, Tryz.ntmps49
    go_upto_region 1 with fail
    generalize w.alloc (.cells #[.func (.func 50) #[] #[]] 81) = wx at *
    go_wp2_with (go_at_call 102; refine HQ.out.mono ?_; rintro e w2 ⟨rfl, hb2⟩)
    go_ret
    exact ⟨by cases R <;> rfl, bthen HB.out hb2⟩
  · rw [decide_eq_false h8]
    have d8 : decide ((xs.length : Int) ≤ (m : Int)) = false := decide_eq_false (by omega)
    have d9 : decide (xs.length ≤ m) = false := decide_eq_false h8
    clear h8
    go_enter Tryz.func49, Tryz.ntmps49
    go_upto_region 1 with fail
    generalize w.alloc (.cells #[.func (.func 50) #[] #[]] 81) = wx at *
    go_wp2_with fail
    go_ret
    exact ⟨rfl, HB.out⟩
set_option maxHeartbeats 1600000 in
set_option maxRecDepth 100000 in
theorem negH_any (x : HrA) (g : Nat) (w : World) (hg : Blk w g 87 #[.func (.func 59) #[] #[]]) (hx : HrA.ok w x) : Calls Tryz.prog 114 #[.agg #[.string x.n, .int .i64 x.d, .int .i64 x.f, .int .i64 x.t], .pointer (some ⟨g, 0, none⟩)] w (BoolB (!HrA.good x) w) := by
  have hb := (Below.refl w.heap.size w).alloc (Nat.le_refl _) (.cells #[.string x.n, .int .i64 x.d, .int .i64 x.f, .int .i64 x.t] 51)
  have hB := Blk.new w 51 #[.string x.n, .int .i64 x.d, .int .i64 x.f, .int .i64 x.t]
  have hr : Calls Tryz.prog 59 #[.agg #[.string x.n, .int .i64 x.d, .int .i64 x.f, .int .i64 x.t]] (w.alloc (.cells #[.string x.n, .int .i64 x.d, .int .i64 x.f, .int .i64 x.t] 51)) (fun e w1 => e = .returned (.bool (HrA.good x)) ∧ Below (w.alloc (.cells #[.string x.n, .int .i64 x.d, .int .i64 x.f, .int .i64 x.t] 51)).heap.size (w.alloc (.cells #[.string x.n, .int .i64 x.d, .int .i64 x.f, .int .i64 x.t] 51)) w1) := by
    refine (show Calls Tryz.prog 59 #[.agg #[.string x.n, .int .i64 x.d, .int .i64 x.f, .int .i64 x.t]] (w.alloc (.cells #[.string x.n, .int .i64 x.d, .int .i64 x.f, .int .i64 x.t] 51)) (BoolB (HrA.good x) (w.alloc (.cells #[.string x.n, .int .i64 x.d, .int .i64 x.f, .int .i64 x.t] 51))) from ?_).mono fun e w1 h => ?_
    · have hx := hx
      generalize w.alloc (.cells #[.string x.n, .int .i64 x.d, .int .i64 x.f, .int .i64 x.t] 51) = W at *
      exact hRight_any x.n x.d x.f x.t W hx.1
    · exact h
  have hg1 := (hg.call hb).cell 0
  have c0 := hB.cell 0
  have c1 := hB.cell 1
  have c2 := hB.cell 2
  have c3 := hB.cell 3
  generalize HrA.good x = X at *
  have HB := Lib.hid hb
  have HR := Lib.hid hr
  clear hb hr hx hg hB
  go_enter Tryz.func114, Tryz.ntmps114
  go_upto_region 1 with fail
  generalize w.alloc (.cells #[.string x.n, .int .i64 x.d, .int .i64 x.f, .int .i64 x.t] 51) = wx at *
  go_wp2_with (go_at_call 59; refine HR.out.mono ?_; rintro e w2 ⟨rfl, hb2⟩)
  go_ret
  exact ⟨rfl, bthen HB.out hb2⟩
set_option maxHeartbeats 3200000 in
set_option maxRecDepth 100000 in
theorem idxH_any (a : Option Addr) (c : Nat) (xs : List HrA) (g : Nat) (w : World) (h : HasHours w a c xs) (hg : Blk w g 87 #[.func (.func 59) #[] #[]]) :
    Calls Tryz.prog 171 #[.slice a xs.length c, .func (.func 114) #[] #[.pointer (some ⟨g, 0, none⟩)]] w (IdxW (xs.all HrA.good) w) := by
  obtain ⟨J, hJ, hgood, hend⟩ := all_end HrA.good xs
  obtain ⟨R, hR⟩ : ∃ R, xs.all HrA.good = R := ⟨_, rfl⟩
  rw [hR] at hend ⊢
  have HG := Lib.hid hgood
  have HE := Lib.hid hend
  have HH := Lib.hid h
  have HB := Lib.hid hg
  have h1 := h.1
  have h2 := h.2.1
  unfold maxLen at h2
  clear hgood hend hR h hg
  go_enter Tryz.func171, Tryz.ntmps171
  go_wp2_with fail
  go_loopg [8, 5] xs.length (fun gg iv _ wr => ∃ k : Nat, k + gg = xs.length ∧ k ≤ J ∧ iv = .int .i64 (k : Int) ∧ Below w.heap.size w wr)
  case atStart => exact ⟨0, by omega, Nat.zero_le _, rfl, Below.refl _ _⟩
  case round =>
    obtain ⟨k, hkg, hkJ, rfl, hbr⟩ := hrel
    cases gk with
    | zero =>
      obtain rfl : k = xs.length := by omega
      obtain rfl : R = true := by
        rcases HE.out with ⟨_, e⟩ | ⟨hj, _⟩
        · exact e
        · omega
      have HBR := Lib.hid hbr
      clear hbr
      go_wp2_with fail
      go_ret
      exact ⟨-1, rfl, rfl, HBR.out⟩
    | succ gg =>
      have hkl : k < xs.length := by omega
      obtain ⟨b, off, rfl, _, hc⟩ := HasRow.place HH.out k hkl
      have hx := HH.out.2.2.1 _ (List.getElem_mem hkl)
      have hq := negH_any xs[k] g wr (HB.out.call hbr) (hx)
      have e0 := cellL hbr (hc 0 _ rfl)
      have e1 := cellL hbr (hc 1 _ rfl)
      have e2 := cellL hbr (hc 2 _ rfl)
      have e3 := cellL hbr (hc 3 _ rfl)
      rw [Nat.add_zero] at e0
      clear hc hx
      have hgk : k < J → HrA.good xs[k] = true := fun h => HG.out k h hkl
      have hjk : k = J → HrA.good xs[k] = false ∧ R = false := fun h => by
        rcases HE.out with ⟨e, _⟩ | ⟨hj, e, e2⟩
        · omega
        · subst h; exact ⟨e, e2⟩
      generalize xs[k] = x at *
      have HQ := Lib.hid hq
      have HBR := Lib.hid hbr
      clear hbr hq
      by_cases hk : k < J
      · rw [hgk hk] at HQ
        clear hgk hjk
        go_wp2_with (go_at_call 114; refine HQ.out.mono ?_; rintro e w2 ⟨rfl, hb2⟩)
        go_roundg gg
        case measure => omega
        case rel => exact ⟨k + 1, by omega, by omega, by go_num, bthen HBR.out hb2⟩
      · obtain ⟨e3, rfl⟩ := hjk (by omega)
        rw [e3] at HQ
        clear hgk hjk e3
        go_wp2_with (go_at_call 114; refine HQ.out.mono ?_; rintro e w2 ⟨rfl, hb2⟩)
        go_ret
        exact ⟨(k : Int), rfl, by simp, bthen HBR.out hb2⟩
theorem conH_any (a : Option Addr) (c : Nat) (xs : List HrA) (g : Nat) (w : World) (h : HasHours w a c xs) (hg : Blk w g 87 #[.func (.func 59) #[] #[]]) :
    Calls Tryz.prog 115 #[.slice a xs.length c, .func (.func 114) #[] #[.pointer (some ⟨g, 0, none⟩)]] w (BoolB (!(xs.all HrA.good)) w) := by
  have hi := idxH_any a c xs g w h hg
  generalize xs.all HrA.good = R at *
  have HI := Lib.hid hi
  clear hi h hg
  go_enter Tryz.func115, Tryz.ntmps115
  go_wp2_with (go_at_call 171; refine HI.out.mono ?_; rintro e w2 ⟨n, rfl, hn, hb2⟩)
  go_ret
  exact ⟨by first | rfl | rw [hn], hb2⟩
set_option maxHeartbeats 1600000 in
set_option maxRecDepth 100000 in
theorem allH_any (a : Option Addr) (c : Nat) (xs : List HrA) (m : Nat) (w : World) (h : HasHours w a c xs) :
    Calls Tryz.prog 58 #[.slice a xs.length c, .int .i64 (m : Int), .func (.func 59) #[] #[]] w (BoolB (decide (xs.length ≤ m) && xs.all HrA.good) w) := by
  have hb := (Below.refl w.heap.size w).alloc (Nat.le_refl _) (.cells #[.func (.func 59) #[] #[]] 87)
  have hB := Blk.new w 87 #[.func (.func 59) #[] #[]]
  have hq := conH_any a c xs w.heap.size _ (h.keep hb) hB
  generalize xs.all HrA.good = R at *
  have HQ := Lib.hid hq
  have HB := Lib.hid hb
  clear hq hb hB h
  by_cases h8 : xs.length ≤ m
  · rw [decide_eq_true h8]
    have d8 : decide ((xs.length : Int) ≤ (m : Int)) = true := decide_eq_true (by omega)
    have d9 : decide (xs.length ≤ m) = true := decide_eq_true h8
    clear h8
    go_enter Tryz.func58, Tryz.ntmps58
    go_upto_region 1 with fail
    generalize w.alloc (.cells #[.func (.func 59) #[] #[]] 87) = wx at *
    go_wp2_with (go_at_call 115; refine HQ.out.mono ?_; rintro e w2 ⟨rfl, hb2⟩)
    go_ret
    exact ⟨by cases R <;> rfl, bthen HB.out hb2⟩
  · rw [decide_eq_false h8]
    have d8 : decide ((xs.length : Int) ≤ (m : Int)) = false := decide_eq_false (by omega)
    have d9 : decide (xs.length ≤ m) = false := decide_eq_false h8
    clear h8
    go_enter Tryz.func58, Tryz.ntmps58
    go_upto_region 1 with fail
    generalize w.alloc (.cells #[.func (.func 59) #[] #[]] 87) = wx at *
    go_wp2_with fail
    go_ret
    exact ⟨rfl, HB.out⟩
end Go.Proofs.YtkgnapojkijbgaaGreatDoor
