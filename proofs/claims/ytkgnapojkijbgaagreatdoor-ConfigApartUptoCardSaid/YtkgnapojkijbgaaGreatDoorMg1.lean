/- The contracts of config.each of rules and of hours, and of config.among. -/
import Derived.Test.YtkgnapojkijbgaaGreatDoorCfgB
import Derived.Test.YtkgnapojkijbgaaGreatDoorCfgD
import Derived.Test.YtkgnapojkijbgaaGreatDoorLabUC
import Derived.Test.YtkgnapojkijbgaaGreatDoorLib
import Derived.Test.YtkgnapojkijbgaaGreatDoorInfo
import Derived.Test.YtkgnapojkijbgaaGreatDoorOwnS
import Derived.Test.YtkgnapojkijbgaaGreatDoorLabM
import Derived.Test.YtkgnapojkijbgaaGreatDoorRteA
import Derived.Maps.Own
import Derived.Maps.OwnSet
import Derived.StringKeys
import Derived.Test.YtkgnapojkijbgaaGreatDoorRteB
import Derived.Test.YtkgnapojkijbgaaGreatDoorLater
import Derived.Laws.EntriesVeiled
import Derived.Deep.CutBlock
import Derived.Deep.RegionHeld3
import Derived.Test.YtkgnapojkijbgaaGreatDoorRteM
import Derived.Deep.RegionWith
import Derived.Test.YtkgnapojkijbgaaGreatDoorLib2
import Derived.BigQuiet
import Derived.Deep.QuietTactic
import Derived.ProofKit
import Derived.Test.YtkgnapojkijbgaaGreatDoorMatB
import Derived.Test.YtkgnapojkijbgaaGreatDoorLabU0
import Derived.Test.YtkgnapojkijbgaaGreatDoorCfgC
namespace Go.Proofs.YtkgnapojkijbgaaGreatDoor
open Go.RowKit

theorem strsV_appE (a b : List ByteArray) : strsV (a ++ b) = strsV a ++ strsV b := by simp [strsV]
theorem wpList_pushStr {P : Program} (W : World) {ops : Array Oper} {rest : List Oper} {o : Oper} {a : Act} {Q : Exit → Act → World → Prop} (hgd : o.guard = none) (s x : Operand) (t : TypeId)
    (ho : o.op = .call { callee := .builtin .append, args := #[s, x], argTypes := #[t, t] })
    (base : Nat) (e : TypeId) (i : TypeInfo) (z : Value) (ht : P.underlying t = some (.slice e)) (hi : P.info? e = some i) (hz : i.zero = some z) (hsize : i.size = 1) (hby : i.bytes = 16) (hzs : z.cells.size = 1)
    (v : Value) (ss : List ByteArray) (l : ByteArray) (hs : a.eval s = v) (hown : OwnS e W base v ss)
    (hx : a.eval x = .slice (some ⟨W.heap.size, 0, none⟩) 1 1) (h63 : ss.length ≤ 1000000) (hbase : base ≤ W.heap.size)
    (h : ∀ (v' : Value) (w' : World), OwnS e w' base v' (ss ++ [l]) → W.grownBy w' v.ownBlock → wpList P ops Q rest (a.put o.dst v') w') :
    wpList P ops Q (o :: rest) a (W.alloc (.cells #[.string l] e)) := by
  refine wpList_push W hgd s x t ho base e i z 16 ht hi hz hsize hby hzs v ss.length (strsV ss) hs hown (.string l) hx rfl (by unfold maxLen; omega) (by omega) hbase ?_
  intro g c w' hown' hg
  refine h _ w' ?_ hg
  unfold OwnS
  rw [List.length_append, strsV_appE]
  exact hown'
def RuA.name (x : RuA) : ByteArray := x.r.name
theorem ruleName_any (x : RuA) (w : World) : Calls Tryz.prog 53 #[.agg #[.string x.r.name, .string x.r.metric, .int .i64 x.r.how, .int .i64 x.r.limit, .int .i64 x.r.fr, .int .i64 x.r.keep, .int .i64 x.r.tries, .slice x.a x.r.labels.length x.c]] w (fun e w' => e = .returned (.string x.r.name) ∧ ∃ os, w' = Go.Sort.grow w os) := by
  go_enter Tryz.func53, Tryz.ntmps53
  have c0 := (Blk.new w 44 #[.string x.r.name, .string x.r.metric, .int .i64 x.r.how, .int .i64 x.r.limit, .int .i64 x.r.fr, .int .i64 x.r.keep, .int .i64 x.r.tries, .slice x.a x.r.labels.length x.c]).cell 0
  go_wp2_with fail
  go_ret
  exact ⟨rfl, _, Go.Sort.alloc_eq_grow w _⟩
set_option maxHeartbeats 3200000 in
set_option maxRecDepth 100000 in
theorem eachR_any (a : Option Addr) (c : Nat) (xs : List RuA) (w : World) (h : HasRules w a c xs) (h8 : xs.length ≤ 1000000) :
    Calls Tryz.prog 52 #[.slice a xs.length c, .func (.func 53) #[] #[]] w (fun e w' => ∃ v, e = .returned v ∧ OwnS 9 w' w.heap.size v (xs.map RuA.name) ∧ Below w.heap.size w w') := by
  obtain ⟨i0, hi, hz0, hz1, hz2⟩ := info_parts Tryz.infoS
  have HH := Lib.hid h
  have h1 := h.1
  have h2 := h.2.1
  unfold maxLen at h2
  clear h
  go_enter Tryz.func52, Tryz.ntmps52
  go_wp2_with fail
  go_loopg [10, 5, 7] xs.length (fun gg iv v _ wr => ∃ (V : Value) (k : Nat), V = v ∧ k + gg = xs.length ∧ iv = .int .i64 (k : Int) ∧ OwnS 9 wr w.heap.size V ((xs.take k).map RuA.name) ∧ Below w.heap.size w wr ∧ w.heap.size ≤ wr.heap.size)
  case atStart => exact ⟨_, 0, rfl, by omega, rfl, OwnS.nil _ _ _, Below.refl _ _, Nat.le_refl _⟩
  case round =>
    obtain ⟨V, k, rfl, hkg, rfl, hown, hbr, hzr⟩ := hrel
    cases gk with
    | zero =>
      obtain rfl : k = xs.length := by omega
      rw [List.take_length] at hown
      have HO := Lib.hid hown
      have HBR := Lib.hid hbr
      clear hown hbr
      go_wp2_with fail
      go_ret
      exact ⟨V, rfl, HO.out, HBR.out⟩
    | succ gg =>
      have hkl : k < xs.length := by omega
      obtain ⟨b, off, rfl, _, hc⟩ := HasRow.place HH.out k hkl
      have e0 := cellL hbr (hc 0 _ rfl)
      have e1 := cellL hbr (hc 1 _ rfl)
      have e2 := cellL hbr (hc 2 _ rfl)
      have e3 := cellL hbr (hc 3 _ rfl)
      have e4 := cellL hbr (hc 4 _ rfl)
      have e5 := cellL hbr (hc 5 _ rfl)
      have e6 := cellL hbr (hc 6 _ rfl)
      have e7 := cellL hbr (hc 7 _ rfl)
      rw [Nat.add_zero] at e0
      clear hc
      have hts : (xs.take (k + 1)).map RuA.name = (xs.take k).map RuA.name ++ [xs[k].r.name] := by
        rw [List.take_succ_eq_append_getElem hkl, List.map_append]; rfl
      have hll : ((xs.take k).map RuA.name).length ≤ 1000000 := by simp; omega
      have HTS := Lib.hid hts
      clear hts
      obtain ⟨x, hx⟩ : ∃ x, xs[k] = x := ⟨_, rfl⟩
      rw [hx] at HTS
      simp only [hx] at e0 e1 e2 e3 e4 e5 e6 e7
      clear hx
      have hbn := (Below.refl wr.heap.size wr).alloc (Nat.le_refl _) (.cells #[.string x.r.name, .string x.r.metric, .int .i64 x.r.how, .int .i64 x.r.limit, .int .i64 x.r.fr, .int .i64 x.r.keep, .int .i64 x.r.tries, .slice x.a x.r.labels.length x.c] 44)
      have hN := Blk.new wr 44 #[.string x.r.name, .string x.r.metric, .int .i64 x.r.how, .int .i64 x.r.limit, .int .i64 x.r.fr, .int .i64 x.r.keep, .int .i64 x.r.tries, .slice x.a x.r.labels.length x.c]
      have f0 := hN.cell 0
      have f1 := hN.cell 1
      have f2 := hN.cell 2
      have f3 := hN.cell 3
      have f4 := hN.cell 4
      have f5 := hN.cell 5
      have f6 := hN.cell 6
      have f7 := hN.cell 7
      have hownn := hown.call hbn
      have hbrn := hbr.trans (hbn.mono hzr)
      have hzn := Nat.le_trans hzr hbn.size
      have hcall := (ruleName_any x (wr.alloc (.cells #[.string x.r.name, .string x.r.metric, .int .i64 x.r.how, .int .i64 x.r.limit, .int .i64 x.r.fr, .int .i64 x.r.keep, .int .i64 x.r.tries, .slice x.a x.r.labels.length x.c] 44))).mono (fun e w' h => (show e = .returned (.string x.r.name) ∧ Below (wr.alloc (.cells #[.string x.r.name, .string x.r.metric, .int .i64 x.r.how, .int .i64 x.r.limit, .int .i64 x.r.fr, .int .i64 x.r.keep, .int .i64 x.r.tries, .slice x.a x.r.labels.length x.c] 44)).heap.size (wr.alloc (.cells #[.string x.r.name, .string x.r.metric, .int .i64 x.r.how, .int .i64 x.r.limit, .int .i64 x.r.fr, .int .i64 x.r.keep, .int .i64 x.r.tries, .slice x.a x.r.labels.length x.c] 44)) w' from ⟨h.1, by obtain ⟨os, hw⟩ := h.2; rw [hw]; exact below_grow _ _⟩))
      have HCA := Lib.hid hcall
      generalize (xs.take k).map RuA.name = M at *
      clear hN hbn hown hbr hcall
      go_upto_region 5 with fail
      generalize wr.alloc (.cells #[.string x.r.name, .string x.r.metric, .int .i64 x.r.how, .int .i64 x.r.limit, .int .i64 x.r.fr, .int .i64 x.r.keep, .int .i64 x.r.tries, .slice x.a x.r.labels.length x.c] 44) = wn at *
      clear e0 e1 e2 e3 e4 e5 e6 e7
      go_wp2_with (first
        | (go_at_call 53; refine HCA.out.mono ?_; rintro e w3 ⟨rfl, hb3⟩; have ho3 := hownn.call hb3; have hz3 := Nat.le_trans hzn hb3.size)
        | (refine wpList_pushStr w3 (by rfl) (.tmp 14) (.tmp 18) 24 (by rfl) w.heap.size 9 i0 (.string ⟨#[]⟩) Tryz.underlying24 hi hz0 hz1 hz2 rfl V M x.r.name (by rfl) ho3 (by rfl) hll hz3 ?_; intro v4 w4 ho4 hg4))
      have hb4 := ho3.grown (hbrn.trans (hb3.mono hzn)) (Nat.le_refl _) hz3 hg4
      go_roundg gg
      case measure => omega
      case rel => exact ⟨v4, k + 1, rfl, by omega, by go_num, by rw [HTS.out]; exact ho4, hb4, Nat.le_trans hz3 hg4.size⟩
theorem hoursName_any (x : HrA) (w : World) : Calls Tryz.prog 61 #[.agg #[.string x.n, .int .i64 x.d, .int .i64 x.f, .int .i64 x.t]] w (fun e w' => e = .returned (.string x.n) ∧ ∃ os, w' = Go.Sort.grow w os) := by
  go_enter Tryz.func61, Tryz.ntmps61
  have c0 := (Blk.new w 51 #[.string x.n, .int .i64 x.d, .int .i64 x.f, .int .i64 x.t]).cell 0
  go_wp2_with fail
  go_ret
  exact ⟨rfl, _, Go.Sort.alloc_eq_grow w _⟩
set_option maxHeartbeats 3200000 in
set_option maxRecDepth 100000 in
theorem eachH_any (a : Option Addr) (c : Nat) (xs : List HrA) (w : World) (h : HasHours w a c xs) (h8 : xs.length ≤ 1000000) :
    Calls Tryz.prog 60 #[.slice a xs.length c, .func (.func 61) #[] #[]] w (fun e w' => ∃ v, e = .returned v ∧ OwnS 9 w' w.heap.size v (xs.map HrA.n) ∧ Below w.heap.size w w') := by
  obtain ⟨i0, hi, hz0, hz1, hz2⟩ := info_parts Tryz.infoS
  have HH := Lib.hid h
  have h1 := h.1
  have h2 := h.2.1
  unfold maxLen at h2
  clear h
  go_enter Tryz.func60, Tryz.ntmps60
  go_wp2_with fail
  go_loopg [10, 5, 7] xs.length (fun gg iv v _ wr => ∃ (V : Value) (k : Nat), V = v ∧ k + gg = xs.length ∧ iv = .int .i64 (k : Int) ∧ OwnS 9 wr w.heap.size V ((xs.take k).map HrA.n) ∧ Below w.heap.size w wr ∧ w.heap.size ≤ wr.heap.size)
  case atStart => exact ⟨_, 0, rfl, by omega, rfl, OwnS.nil _ _ _, Below.refl _ _, Nat.le_refl _⟩
  case round =>
    obtain ⟨V, k, rfl, hkg, rfl, hown, hbr, hzr⟩ := hrel
    cases gk with
    | zero =>
      obtain rfl : k = xs.length := by omega
      rw [List.take_length] at hown
      have HO := Lib.hid hown
      have HBR := Lib.hid hbr
      clear hown hbr
      go_wp2_with fail
      go_ret
      exact ⟨V, rfl, HO.out, HBR.out⟩
    | succ gg =>
      have hkl : k < xs.length := by omega
      obtain ⟨b, off, rfl, _, hc⟩ := HasRow.place HH.out k hkl
      have e0 := cellL hbr (hc 0 _ rfl)
      have e1 := cellL hbr (hc 1 _ rfl)
      have e2 := cellL hbr (hc 2 _ rfl)
      have e3 := cellL hbr (hc 3 _ rfl)
      rw [Nat.add_zero] at e0
      clear hc
      have hts : (xs.take (k + 1)).map HrA.n = (xs.take k).map HrA.n ++ [xs[k].n] := by
        rw [List.take_succ_eq_append_getElem hkl, List.map_append]; rfl
      have hll : ((xs.take k).map HrA.n).length ≤ 1000000 := by simp; omega
      have HTS := Lib.hid hts
      clear hts
      obtain ⟨x, hx⟩ : ∃ x, xs[k] = x := ⟨_, rfl⟩
      rw [hx] at HTS
      simp only [hx] at e0 e1 e2 e3
      clear hx
      have hbn := (Below.refl wr.heap.size wr).alloc (Nat.le_refl _) (.cells #[.string x.n, .int .i64 x.d, .int .i64 x.f, .int .i64 x.t] 51)
      have hN := Blk.new wr 51 #[.string x.n, .int .i64 x.d, .int .i64 x.f, .int .i64 x.t]
      have f0 := hN.cell 0
      have f1 := hN.cell 1
      have f2 := hN.cell 2
      have f3 := hN.cell 3
      have hownn := hown.call hbn
      have hbrn := hbr.trans (hbn.mono hzr)
      have hzn := Nat.le_trans hzr hbn.size
      have hcall := (hoursName_any x (wr.alloc (.cells #[.string x.n, .int .i64 x.d, .int .i64 x.f, .int .i64 x.t] 51))).mono (fun e w' h => (show e = .returned (.string x.n) ∧ Below (wr.alloc (.cells #[.string x.n, .int .i64 x.d, .int .i64 x.f, .int .i64 x.t] 51)).heap.size (wr.alloc (.cells #[.string x.n, .int .i64 x.d, .int .i64 x.f, .int .i64 x.t] 51)) w' from ⟨h.1, by obtain ⟨os, hw⟩ := h.2; rw [hw]; exact below_grow _ _⟩))
      have HCA := Lib.hid hcall
      generalize (xs.take k).map HrA.n = M at *
      clear hN hbn hown hbr hcall
      go_upto_region 5 with fail
      generalize wr.alloc (.cells #[.string x.n, .int .i64 x.d, .int .i64 x.f, .int .i64 x.t] 51) = wn at *
      clear e0 e1 e2 e3
      go_wp2_with (first
        | (go_at_call 61; refine HCA.out.mono ?_; rintro e w3 ⟨rfl, hb3⟩; have ho3 := hownn.call hb3; have hz3 := Nat.le_trans hzn hb3.size)
        | (refine wpList_pushStr w3 (by rfl) (.tmp 14) (.tmp 18) 24 (by rfl) w.heap.size 9 i0 (.string ⟨#[]⟩) Tryz.underlying24 hi hz0 hz1 hz2 rfl V M x.n (by rfl) ho3 (by rfl) hll hz3 ?_; intro v4 w4 ho4 hg4))
      have hb4 := ho3.grown (hbrn.trans (hb3.mono hzn)) (Nat.le_refl _) hz3 hg4
      go_roundg gg
      case measure => omega
      case rel => exact ⟨v4, k + 1, rfl, by omega, by go_num, by rw [HTS.out]; exact ho4, hb4, Nat.le_trans hz3 hg4.size⟩

/-- all of some words are in a list -/
def amongB (xs ls : List ByteArray) : Bool := xs.all (fun x => inB x ls)
theorem negA_any (x : ByteArray) (g : Nat) (a : Option Addr) (c : Nat) (ls : List ByteArray) (w : World) (hg : Blk w g 24 #[.slice a ls.length c]) (hl : HasStrs w a c ls) :
    Calls Tryz.prog 180 #[.string x, .pointer (some ⟨g, 0, none⟩)] w (BoolB (!inB x ls) w) := by
  have hr := containsL_any a c ls x w hl
  have hg1 := hg.cell 0
  generalize inB x ls = X at *
  have HR := Lib.hid hr
  clear hr hg hl
  go_enter Tryz.func180, Tryz.ntmps180
  go_wp2_with (go_at_call 181; refine HR.out.mono ?_; rintro e w2 ⟨rfl, rfl⟩)
  go_ret
  exact ⟨rfl, Below.refl _ _⟩
set_option maxHeartbeats 3200000 in
set_option maxRecDepth 100000 in
theorem idxA_any (a : Option Addr) (c : Nat) (xs : List ByteArray) (g : Nat) (la : Option Addr) (lc : Nat) (ls : List ByteArray) (w : World) (h : HasStrs w a c xs) (hg : Blk w g 24 #[.slice la ls.length lc]) (hl : HasStrs w la lc ls) :
    Calls Tryz.prog 166 #[.slice a xs.length c, .func (.func 180) #[] #[.pointer (some ⟨g, 0, none⟩)]] w (IdxW (amongB xs ls) w) := by
  obtain ⟨J, hJ, hgood, hend⟩ := all_end (fun x => inB x ls) xs
  obtain ⟨R, hR⟩ : ∃ R, amongB xs ls = R := ⟨_, rfl⟩
  rw [show xs.all (fun x => inB x ls) = R from hR] at hend
  rw [hR]
  have HG := Lib.hid hgood
  have HE := Lib.hid hend
  have HH := Lib.hid h
  have HB := Lib.hid hg
  have HL := Lib.hid hl
  have h1 := h.1
  have h2 := h.2.1
  unfold maxLen at h2
  clear hgood hend hR h hg hl
  go_enter Tryz.func166, Tryz.ntmps166
  go_wp2_with fail
  go_loopg [8, 5] xs.length (fun gg iv _ wr => ∃ k : Nat, k + gg = xs.length ∧ k ≤ J ∧ iv = .int .i64 (k : Int) ∧ Below w.heap.size w wr)
  case atStart => exact ⟨0, by omega, Nat.zero_le _, rfl, Below.refl _ _⟩
  case round =>
    obtain ⟨k, hkg, hkJ, rfl, hbr⟩ := hrel
    cases gk with
    | zero =>
      obtain rfl : k = xs.length := by omega
      obtain rfl : R = true := by
        rcases HE.out with ⟨_, e⟩ | ⟨hj, _⟩
        · exact e
        · omega
      have HBR := Lib.hid hbr
      clear hbr
      go_wp2_with fail
      go_ret
      exact ⟨-1, rfl, rfl, HBR.out⟩
    | succ gg =>
      have hkl : k < xs.length := by omega
      obtain ⟨b, off, rfl, g0⟩ : ∃ b off, a = some ⟨b, off, none⟩ ∧ w.cell? ⟨b, off + k, none⟩ = some (.string xs[k]) := by
        rcases HH.out.2.2.2 with h | ⟨b, off, h1, _, h3⟩
        · rw [h] at hkl; simp at hkl
        · exact ⟨b, off, h1, h3 k hkl⟩
      have e0 := cellL hbr g0
      have hq := negA_any xs[k] g la lc ls wr (HB.out.call hbr) (HL.out.call hbr)
      clear g0
      have hgk : k < J → inB xs[k] ls = true := fun h => HG.out k h hkl
      have hjk : k = J → inB xs[k] ls = false ∧ R = false := fun h => by
        rcases HE.out with ⟨e, _⟩ | ⟨hj, e, e2⟩
        · omega
        · subst h; exact ⟨e, e2⟩
      generalize xs[k] = x at *
      have HQ := Lib.hid hq
      have HBR := Lib.hid hbr
      clear hbr hq
      by_cases hk : k < J
      · rw [hgk hk] at HQ
        clear hgk hjk
        go_wp2_with (go_at_call 180; refine HQ.out.mono ?_; rintro e w2 ⟨rfl, hb2⟩)
        go_roundg gg
        case measure => omega
        case rel => exact ⟨k + 1, by omega, by omega, by go_num, bthen HBR.out hb2⟩
      · obtain ⟨e3, rfl⟩ := hjk (by omega)
        rw [e3] at HQ
        clear hgk hjk e3
        go_wp2_with (go_at_call 180; refine HQ.out.mono ?_; rintro e w2 ⟨rfl, hb2⟩)
        go_ret
        exact ⟨(k : Int), rfl, by simp, bthen HBR.out hb2⟩
theorem conA_any (a : Option Addr) (c : Nat) (xs : List ByteArray) (g : Nat) (la : Option Addr) (lc : Nat) (ls : List ByteArray) (w : World) (h : HasStrs w a c xs) (hg : Blk w g 24 #[.slice la ls.length lc]) (hl : HasStrs w la lc ls) :
    Calls Tryz.prog 108 #[.slice a xs.length c, .func (.func 180) #[] #[.pointer (some ⟨g, 0, none⟩)]] w (BoolB (!amongB xs ls) w) := by
  have hi := idxA_any a c xs g la lc ls w h hg hl
  generalize amongB xs ls = R at *
  have HI := Lib.hid hi
  clear hi h hg hl
  go_enter Tryz.func108, Tryz.ntmps108
  go_wp2_with (go_at_call 166; refine HI.out.mono ?_; rintro e w2 ⟨n, rfl, hn, hb2⟩)
  go_ret
  exact ⟨by first | rfl | rw [hn], hb2⟩
set_option maxHeartbeats 1600000 in
set_option maxRecDepth 100000 in
theorem among_any (a : Option Addr) (c : Nat) (xs : List ByteArray) (la : Option Addr) (lc : Nat) (ls : List ByteArray) (w : World) (h : HasStrs w a c xs) (hl : HasStrs w la lc ls) :
    Calls Tryz.prog 120 #[.slice a xs.length c, .slice la ls.length lc] w (BoolB (amongB xs ls) w) := by
  have hb := (Below.refl w.heap.size w).alloc (Nat.le_refl _) (.cells #[.slice la ls.length lc] 24)
  have hB := Blk.new w 24 #[.slice la ls.length lc]
  have hq := conA_any a c xs w.heap.size la lc ls _ (h.call hb) hB (hl.call hb)
  generalize amongB xs ls = R at *
  have HQ := Lib.hid hq
  have HB := Lib.hid hb
  clear hq hb hB h hl
  go_enter Tryz.func120, Tryz.ntmps120
  go_upto_region 1 with fail
  generalize w.alloc (.cells #[.slice la ls.length lc] 24) = wx at *
  go_wp2_with (go_at_call 108; refine HQ.out.mono ?_; rintro e w2 ⟨rfl, hb2⟩)
  go_ret
  exact ⟨by cases R <;> rfl, bthen HB.out hb2⟩
end Go.Proofs.YtkgnapojkijbgaaGreatDoor
/- A row of texts, each of them once: mathematics. It speaks of no program. -/
namespace Go.Proofs.YtkgnapojkijbgaaGreatDoor

def stepO (K : List ByteArray) (s : ByteArray) : List ByteArray := if K.any (fun x => decide (x = s)) then K else K ++ [s]
/-- each once, in the order in which they come first -/
def onceL (L : List ByteArray) : List ByteArray := L.foldl stepO []
theorem onceL_snoc (L : List ByteArray) (s : ByteArray) : onceL (L ++ [s]) = stepO (onceL L) s := by simp [onceL]
theorem rev_ind {P : List ByteArray → Prop} (h0 : P []) (h1 : ∀ L s, P L → P (L ++ [s])) (L : List ByteArray) : P L := by
  have : ∀ n, ∀ L : List ByteArray, L.length = n → P L := by
    intro n
    induction n with
    | zero => intro L h; rw [List.eq_nil_of_length_eq_zero h]; exact h0
    | succ n ih =>
      intro L h
      have hne : L ≠ [] := fun e => by rw [e] at h; simp at h
      rw [← List.dropLast_concat_getLast hne]
      exact h1 _ _ (ih _ (by simp [h]))
  exact this _ L rfl
theorem any_mem (K : List ByteArray) (s : ByteArray) : K.any (fun x => decide (x = s)) = true ↔ s ∈ K := by
  simp
theorem mem_once (L : List ByteArray) (x : ByteArray) : x ∈ onceL L ↔ x ∈ L := by
  induction L using rev_ind with
  | h0 => simp [onceL]
  | h1 L s ih =>
    rw [onceL_snoc]
    unfold stepO
    by_cases h : s ∈ onceL L
    · rw [if_pos ((any_mem _ _).2 h)]
      rw [List.mem_append, List.mem_singleton, ih]
      constructor
      · exact .inl
      · rintro (h' | rfl)
        · exact h'
        · exact ih.1 h
    · rw [if_neg (fun e => h ((any_mem _ _).1 e)), List.mem_append, List.mem_append, ih]
theorem once_len (L : List ByteArray) : (onceL L).length ≤ L.length := by
  induction L using rev_ind with
  | h0 => simp [onceL]
  | h1 L s ih =>
    rw [onceL_snoc]
    unfold stepO
    split
    · simp; omega
    · simp; omega
/-- how often a text is there -/
def cntL (L : List ByteArray) (s : ByteArray) : Nat := (L.filter fun x => decide (x = s)).length
theorem cntL_snoc (L : List ByteArray) (x s : ByteArray) : cntL (L ++ [x]) s = cntL L s + if x = s then 1 else 0 := by
  unfold cntL
  rw [List.filter_append, List.length_append]
  by_cases h : x = s <;> simp [h]
theorem cntL_len (L : List ByteArray) (s : ByteArray) : cntL L s ≤ L.length := List.length_filter_le _ _
theorem cntL_zero (L : List ByteArray) (s : ByteArray) : cntL L s = 0 ↔ s ∉ L := by
  unfold cntL
  rw [List.length_eq_zero_iff, List.filter_eq_nil_iff]
  constructor
  · intro h hm
    exact h s hm (by simp)
  · intro h x hx
    simp only [decide_eq_true_eq]
    rintro rfl
    exact h hx
theorem once_new {L : List ByteArray} {s : ByteArray} (h : cntL L s = 0) : onceL (L ++ [s]) = onceL L ++ [s] := by
  rw [onceL_snoc]
  unfold stepO
  have : s ∉ onceL L := fun hm => (cntL_zero L s).1 h ((mem_once L s).1 hm)
  rw [if_neg (fun e => this ((any_mem _ _).1 e))]
theorem once_old {L : List ByteArray} {s : ByteArray} (h : cntL L s ≠ 0) : onceL (L ++ [s]) = onceL L := by
  rw [onceL_snoc]
  unfold stepO
  have : s ∈ onceL L := (mem_once L s).2 (Classical.byContradiction fun hm => h ((cntL_zero L s).2 hm))
  rw [if_pos ((any_mem _ _).2 this)]
/-- what all of some routes tell -/
def tellL (T : Rt → List ByteArray) (xs : List Rt) : List ByteArray := xs.flatMap T
theorem tellL_snoc (T : Rt → List ByteArray) (xs : List Rt) (x : Rt) : tellL T (xs ++ [x]) = tellL T xs ++ T x := by simp [tellL]
theorem tellL_len (T : Rt → List ByteArray) (m : Nat) (h : ∀ x, (T x).length ≤ m) (xs : List Rt) : (tellL T xs).length ≤ xs.length * m := by
  induction xs with
  | nil => simp [tellL]
  | cons x xs ih =>
    have e : tellL T (x :: xs) = T x ++ tellL T xs := rfl
    have := h x
    rw [e, List.length_append, List.length_cons, Nat.succ_mul]
    omega
end Go.Proofs.YtkgnapojkijbgaaGreatDoor
/- What the two closures of routes.Names tell of a route: its receiver, and its words of hours. -/
namespace Go.Proofs.YtkgnapojkijbgaaGreatDoor
open Go.RowKit

/-- the texts lie in memory as it was at first, or there is just one -/
def TellP (w0 : World) (T : List ByteArray) (w : World) (e : Ending) (w' : World) : Prop := ∃ a c, e = .returned (.slice a T.length c) ∧ HasStrs w' a c T ∧ (HasStrs w0 a c T ∨ T.length = 1) ∧ Below w.heap.size w w'
def recvT (n : Rt) : List ByteArray := [n.recv]
def muteT (n : Rt) : List ByteArray := n.mute
set_option maxHeartbeats 1600000 in
set_option maxRecDepth 100000 in
theorem names1_any (w0 : World) (q : RtAt) (w : World) (h : q.own w0) (_ : Below w0.heap.size w0 w) : Calls Tryz.prog 177 #[.agg (tCells q)] w (TellP w0 (recvT q.n) w) := by
  have hb := (Below.refl w.heap.size w).alloc (Nat.le_refl _) (.cells (tCells q) 27)
  have hB := Blk.new w 27 (tCells q)
  have hs := h.2.2.2.1
  have HB := Lib.hid hb
  clear hb h
  obtain ⟨n, ma, mc, ba, bc, ua, uc, ka, kc⟩ := q
  simp only [tCells] at *
  go_enter Tryz.func177, Tryz.ntmps177
  go_upto_region 1 with fail
  generalize w.alloc (.cells #[.string n.recv, .slice ma n.ms.length mc, .slice ba n.bys.length bc, .int .i64 n.wait, .int .i64 n.every, .int .i64 n.rep, .slice ua n.mute.length uc, .bool n.on, .slice ka n.kids.length kc] 27) = wx at *
  obtain ⟨c0, c1, c2, c3, c4, c5, c6, c7, c8⟩ := hB.cells9
  have hn := (Blk.new wx 9 #[.string n.recv]).cell 0
  have hba := HB.out.alloc HB.out.size (.cells #[.string n.recv] 9)
  have HN := Lib.hid hn
  have HA := Lib.hid hba
  clear hn hba
  go_wp2_with fail
  go_ret
  refine ⟨_, _, rfl, ⟨by simp [recvT], by unfold maxLen; omega, ?_, .inr ⟨_, 0, rfl, by simp, ?_⟩⟩, .inr rfl, HA.out⟩
  · intro s hs'
    simp only [recvT, List.mem_singleton] at hs'
    subst hs'
    unfold maxLen; omega
  · intro i hi
    simp only [recvT, List.length_singleton] at hi
    obtain rfl : i = 0 := by omega
    exact HN.out
set_option maxHeartbeats 1600000 in
set_option maxRecDepth 100000 in
theorem names2_any (w0 : World) (q : RtAt) (w : World) (h : q.own w0) (hw : Below w0.heap.size w0 w) : Calls Tryz.prog 178 #[.agg (tCells q)] w (TellP w0 (muteT q.n) w) := by
  have hb := (Below.refl w.heap.size w).alloc (Nat.le_refl _) (.cells (tCells q) 27)
  have hB := Blk.new w 27 (tCells q)
  have hs := (h.2.2.1.call hw).call hb
  have hs0 := h.2.2.1
  have HB := Lib.hid hb
  have HS := Lib.hid hs
  have HS0 := Lib.hid hs0
  clear hb h hs hs0
  obtain ⟨n, ma, mc, ba, bc, ua, uc, ka, kc⟩ := q
  simp only [tCells] at *
  go_enter Tryz.func178, Tryz.ntmps178
  go_upto_region 1 with fail
  generalize w.alloc (.cells #[.string n.recv, .slice ma n.ms.length mc, .slice ba n.bys.length bc, .int .i64 n.wait, .int .i64 n.every, .int .i64 n.rep, .slice ua n.mute.length uc, .bool n.on, .slice ka n.kids.length kc] 27) = wx at *
  obtain ⟨c0, c1, c2, c3, c4, c5, c6, c7, c8⟩ := hB.cells9
  go_wp2_with fail
  go_ret
  exact ⟨_, _, rfl, HS.out, .inl HS0.out, HB.out⟩
end Go.Proofs.YtkgnapojkijbgaaGreatDoor
/- A map of texts by how often they came, of the call's own. -/
namespace Go.Proofs.YtkgnapojkijbgaaGreatDoor
open Go.RowKit Go.Maps Go.WideMaps

theorem keyC : Keyed Tryz.prog 9 := string_keyed Tryz.underlying9
def litC (s : ByteArray) : Lit := .string s.data.toList
theorem litC_inj {s t : ByteArray} (h : litC s = litC t) : s = t := by
  simp only [litC, Lit.string.injEq] at h
  exact bytes_ext (by simpa using h)
theorem litC_key (s : ByteArray) : WideAt.IsKeyLit (litC s) := trivial
/-- the map at b has for each text how often it is in L -/
def CntIs (w : World) (b : Nat) (L : List ByteArray) : Prop := ∃ D : DataW Unit, w.ownsMap Tryz.prog 9 (plainElem Tryz.prog 3) b L.length D ∧ Maps.Tidy D ∧
  ∀ s, D.atKey (litC s) (.lit (.int .i64 0)) = .lit (.int .i64 (cntL L s))
theorem CntIs.call {w w1 : World} {b : Nat} {L : List ByteArray} (h : CntIs w b L) (hb : Below w.heap.size w w1) : CntIs w1 b L := by
  obtain ⟨D, h1, h2⟩ := h
  exact ⟨D, h1.kept (row := none) ⟨hb.os, hb.tape, hb.output, hb.size, fun k hk _ => hb.block k hk⟩ (by simp), h2⟩
theorem CntIs.kept {w w1 : World} {b : Nat} {L : List ByteArray} {row : Option Nat} (h : CntIs w b L) (hg : w.grownBy w1 row) (hne : some b ≠ row) : CntIs w1 b L := by
  obtain ⟨D, h1, h2⟩ := h
  exact ⟨D, h1.kept hg hne, h2⟩
theorem CntIs.lt {w : World} {b : Nat} {L : List ByteArray} (h : CntIs w b L) : b < w.heap.size := by
  obtain ⟨D, h1, _⟩ := h
  exact h1.lt
theorem CntIs.made (w : World) : CntIs (w.alloc (.map #[] 0)) w.heap.size [] :=
  ⟨.map [], World.ownsMap_made _ _ _ _, Maps.tidy_empty, fun _ => rfl⟩
theorem zeroI (w : World) : (zeroValue 3).run Tryz.prog w = .ok (.int .i64 0) w := by kernel_rfl
theorem CntIs.look {w : World} {b : Nat} {L : List ByteArray} (h : CntIs w b L) (s : ByteArray) (hs : s.size ≤ maxLen) :
    (Instr.lookup 212 (.map (some b)) (.string s) false).run Tryz.prog w = .ok (.int .i64 (cntL L s : Nat)) w := by
  obtain ⟨D, h1, h2, h5⟩ := h
  obtain ⟨c, hrun, hv, _⟩ := h1.lookup_int keyC Tryz.underlying212 Tryz.underlying3 (zeroI w) (keyOf_string_mk Tryz.underlying9 hs)
  have hat : D.atKey (Lit.string s.data.toList) (.lit (.int .i64 0)) = .lit (.int .i64 (cntL L s)) := h5 s
  rw [hat] at hv
  simp only [DataW.lit.injEq, Lit.int.injEq, true_and] at hv
  rw [hrun, ← hv]
theorem CntIs.put {D : DataW Unit} {w' : World} {b : Nat} {L : List ByteArray} {l : ByteArray} (h2 : Maps.Tidy D)
    (h5 : ∀ s, D.atKey (litC s) (.lit (.int .i64 0)) = .lit (.int .i64 (cntL L s)))
    (h' : w'.ownsMap Tryz.prog 9 (plainElem Tryz.prog 3) b (L.length + 1) (D.put (litC l) (.lit (.int .i64 ((cntL L l : Nat) + 1 : Int))))) : CntIs w' b (L ++ [l]) := by
  refine ⟨_, by rw [List.length_append]; exact h', h2.put (litC_key l) _, fun s => ?_⟩
  rw [cntL_snoc]
  by_cases h : l = s
  · subst h
    rw [Maps.atKey_put_same h2.isMap (litC_key l), if_pos rfl]
    simp
  · rw [Maps.atKey_put_other (fun e => h (litC_inj e).symm), h5, if_neg h]
    simp
set_option maxRecDepth 100000 in
theorem wpList_putC (w : World) {ops : Array Oper} {rest : List Oper} {o : Oper} {a : Act} {Q : Exit → Act → World → Prop}
    (hg : o.guard = none) (m x v : Operand) (hop : o.op = Op.mapUpdate 212 m x v) (b : Nat) (L : List ByteArray) (l : ByteArray)
    (hm : a.eval m = .map (some b)) (h : CntIs w b L) (hK1 : L.length ≤ 1000000000) (hx : a.eval x = .string l) (hv : a.eval v = .int .i64 ((cntL L l : Nat) + 1 : Int)) (hs1 : l.size ≤ maxLen)
    (hK : ∀ w', CntIs w' b (L ++ [l]) → w.grownBy w' (some b) → wpList Tryz.prog ops Q rest (a.put o.dst undef) w') :
    wpList Tryz.prog ops Q (o :: rest) a w := by
  obtain ⟨D, h1, h2, h5⟩ := h
  have hc := cntL_len L l
  refine wpList_plain hg fun K' hK' => ?_
  obtain ⟨w', hrun, r1, r2⟩ := h1.update keyC Tryz.underlying212 (by unfold maxLen; omega) (keyOf_string_mk Tryz.underlying9 hs1)
    (plainElem_int (H := Unit) Tryz.underlying3 (q := .i64) (a := ((cntL L l : Nat) + 1 : Int)) (WalkArith.wf_i64 (by omega)))
  unfold Oper.wp
  simp [execOp, hop, hm, hx, hv, hrun, Result.andThen]
  exact hK' _ _ (hK w' (CntIs.put h2 h5 r1) r2)
end Go.Proofs.YtkgnapojkijbgaaGreatDoor
/- The contracts of routes.rightAlone and routes.Right. -/
namespace Go.Proofs.YtkgnapojkijbgaaGreatDoor
open Go.RowKit

set_option maxHeartbeats 6400000 in
set_option maxRecDepth 100000 in
theorem rteAlone_any (q : RtAt) (w : World) (h : q.own w) : Calls Tryz.prog 174 #[.agg (tCells q)] w (BoolB (aloneC q.n) w) := by
  have hb := (Below.refl w.heap.size w).alloc (Nat.le_refl _) (.cells (tCells q) 27)
  have hB := Blk.new w 27 (tCells q)
  obtain ⟨h0, h1, h2, h3, h4, h5⟩ := h.call hb
  have h16 : decide ((q.n.kids.length : Int) ≤ 16) = decide (q.n.kids.length ≤ 16) := by rw [Bool.eq_iff_iff]; simp; omega
  have hrc : q.n.recv.size ≤ maxLen := by unfold maxLen; omega
  have HCS := Lib.hid (fun W (hW : Below (w.alloc (.cells (tCells q) 27)).heap.size (w.alloc (.cells (tCells q) 27)) W) => (hB.call hW).cells9)
  have H0 := Lib.hid (fun W => rteWord_any q.n.recv W hrc)
  have H1 := Lib.hid (fun W (hW : Below (w.alloc (.cells (tCells q) 27)).heap.size (w.alloc (.cells (tCells q) 27)) W) => rteMatch_any q.ma q.mc q.n.ms W (h0.call hW))
  have H2 := Lib.hid (fun W (hW : Below (w.alloc (.cells (tCells q) 27)).heap.size (w.alloc (.cells (tCells q) 27)) W) => rteBy_any q.ba q.bc q.n.bys W (h1.call hW) h5.2.1)
  have H3 := Lib.hid (fun W => rteWithin_any q.n.wait 0 1099511627776 W)
  have H4 := Lib.hid (fun W => rteWithin_any q.n.every 1 1099511627776 W)
  have H5 := Lib.hid (fun W => rteWithin_any q.n.rep 1 1099511627776 W)
  have H6 := Lib.hid (fun W (hW : Below (w.alloc (.cells (tCells q) 27)).heap.size (w.alloc (.cells (tCells q) 27)) W) => rteMute_any q.ua q.uc q.n.mute W (h2.call hW))
  have HB := Lib.hid hb
  obtain ⟨c0, c1, c2, c3, c4, c5, c6, c7, c8⟩ := hB.cells9
  have hR : aloneC q.n = (bwC q.n.recv.data.toList && (matchC q.n.ms && (rightC (byLabs q.n.bys) && ((inRt q.n.wait 0 1099511627776 && (inRt q.n.every 1 1099511627776 && inRt q.n.rep 1 1099511627776)) && (muteC q.n.mute && decide (q.n.kids.length ≤ 16)))))) := rfl
  generalize decide (q.n.kids.length ≤ 16) = D at *
  obtain ⟨R, hRR⟩ : ∃ R, aloneC q.n = R := ⟨_, rfl⟩
  rw [hRR] at hR ⊢
  have HR := Lib.hid hR
  clear h h0 h1 h2 h3 h4 h5 hb hB hrc hR hRR
  obtain ⟨n, ma, mc, ba, bc, ua, uc, ka, kc⟩ := q
  simp only [tCells] at *
  generalize bwC n.recv.data.toList = B0 at *
  generalize matchC n.ms = B1 at *
  generalize rightC (byLabs n.bys) = B2 at *
  generalize inRt n.wait 0 1099511627776 = B3 at *
  generalize inRt n.every 1 1099511627776 = B4 at *
  generalize inRt n.rep 1 1099511627776 = B5 at *
  generalize muteC n.mute = B6 at *
  go_enter Tryz.func174, Tryz.ntmps174
  go_upto_region 1 with fail
  generalize w.alloc (.cells #[.string n.recv, .slice ma n.ms.length mc, .slice ba n.bys.length bc, .int .i64 n.wait, .int .i64 n.every, .int .i64 n.rep, .slice ua n.mute.length uc, .bool n.on, .slice ka n.kids.length kc] 27) = wx at *
  cases B0 with
  | false =>
    obtain rfl : R = false := HR.out
    go_wp2_with (go_at_call 214; refine (H0.out _).mono ?_; rintro e w2 ⟨rfl, hb2⟩)
    go_ret
    exact ⟨rfl, bthen HB.out hb2⟩
  | true =>
  cases B1 with
  | false =>
    obtain rfl : R = false := HR.out
    go_wp2_with (first
      | (go_at_call 214; refine (H0.out _).mono ?_; rintro e w2 ⟨rfl, hb2⟩; obtain ⟨_, d1, _, _, _, _, _, _, _⟩ := HCS.out _ hb2)
      | (go_at_call 215; refine (H1.out _ hb2).mono ?_; rintro e w3 ⟨rfl, hb3⟩))
    go_ret
    exact ⟨rfl, bthen HB.out (bthen hb2 hb3)⟩
  | true =>
  cases B2 with
  | false =>
    obtain rfl : R = false := HR.out
    go_wp2_with (first
      | (go_at_call 214; refine (H0.out _).mono ?_; rintro e w2 ⟨rfl, hb2⟩; obtain ⟨_, d1, _, _, _, _, _, _, _⟩ := HCS.out _ hb2)
      | (go_at_call 215; refine (H1.out _ hb2).mono ?_; rintro e w3 ⟨rfl, hb3'⟩; have hb3 := bthen hb2 hb3'; obtain ⟨_, _, e2, _, _, _, _, _, _⟩ := HCS.out _ hb3)
      | (go_at_call 216; refine (H2.out _ hb3).mono ?_; rintro e w4 ⟨rfl, hb4⟩))
    go_ret
    exact ⟨rfl, bthen HB.out (bthen hb3 hb4)⟩
  | true =>
  cases B3 with
  | false =>
    obtain rfl : R = false := HR.out
    go_wp2_with (first
      | (go_at_call 214; refine (H0.out _).mono ?_; rintro e w2 ⟨rfl, hb2⟩; obtain ⟨_, d1, _, _, _, _, _, _, _⟩ := HCS.out _ hb2)
      | (go_at_call 215; refine (H1.out _ hb2).mono ?_; rintro e w3 ⟨rfl, hb3'⟩; have hb3 := bthen hb2 hb3'; obtain ⟨_, _, e2, _, _, _, _, _, _⟩ := HCS.out _ hb3)
      | (go_at_call 216; refine (H2.out _ hb3).mono ?_; rintro e w4 ⟨rfl, hb4'⟩; have hb4 := bthen hb3 hb4'; obtain ⟨_, _, _, f3, f4, f5, f6, _, _⟩ := HCS.out _ hb4)
      | (go_at_call 217; refine (H3.out _).mono ?_; rintro e w5 ⟨rfl, rfl⟩))
    go_ret
    exact ⟨rfl, bthen HB.out hb4⟩
  | true =>
  cases B4 with
  | false =>
    obtain rfl : R = false := HR.out
    go_wp2_with (first
      | (go_at_call 214; refine (H0.out _).mono ?_; rintro e w2 ⟨rfl, hb2⟩; obtain ⟨_, d1, _, _, _, _, _, _, _⟩ := HCS.out _ hb2)
      | (go_at_call 215; refine (H1.out _ hb2).mono ?_; rintro e w3 ⟨rfl, hb3'⟩; have hb3 := bthen hb2 hb3'; obtain ⟨_, _, e2, _, _, _, _, _, _⟩ := HCS.out _ hb3)
      | (go_at_call 216; refine (H2.out _ hb3).mono ?_; rintro e w4 ⟨rfl, hb4'⟩; have hb4 := bthen hb3 hb4'; obtain ⟨_, _, _, f3, f4, f5, f6, _, _⟩ := HCS.out _ hb4)
      | (go_at_call 217; (with_reducible refine (H3.out _).mono ?_); rintro e w5 ⟨rfl, rfl⟩)
      | (go_at_call 217; (with_reducible refine (H4.out _).mono ?_); rintro e w5 ⟨rfl, rfl⟩))
    go_ret
    exact ⟨rfl, bthen HB.out hb4⟩
  | true =>
  cases B5 with
  | false =>
    obtain rfl : R = false := HR.out
    go_wp2_with (first
      | (go_at_call 214; refine (H0.out _).mono ?_; rintro e w2 ⟨rfl, hb2⟩; obtain ⟨_, d1, _, _, _, _, _, _, _⟩ := HCS.out _ hb2)
      | (go_at_call 215; refine (H1.out _ hb2).mono ?_; rintro e w3 ⟨rfl, hb3'⟩; have hb3 := bthen hb2 hb3'; obtain ⟨_, _, e2, _, _, _, _, _, _⟩ := HCS.out _ hb3)
      | (go_at_call 216; refine (H2.out _ hb3).mono ?_; rintro e w4 ⟨rfl, hb4'⟩; have hb4 := bthen hb3 hb4'; obtain ⟨_, _, _, f3, f4, f5, f6, _, _⟩ := HCS.out _ hb4)
      | (go_at_call 217; (with_reducible refine (H3.out _).mono ?_); rintro e w5 ⟨rfl, rfl⟩)
      | (go_at_call 217; (with_reducible refine (H4.out _).mono ?_); rintro e w5 ⟨rfl, rfl⟩)
      | (go_at_call 217; (with_reducible refine (H5.out _).mono ?_); rintro e w5 ⟨rfl, rfl⟩))
    go_ret
    exact ⟨rfl, bthen HB.out hb4⟩
  | true =>
    obtain rfl : R = (B6 && D) := HR.out
    cases B6
    all_goals go_wp2_with (first
      | (go_at_call 214; refine (H0.out _).mono ?_; rintro e w2 ⟨rfl, hb2⟩; obtain ⟨_, d1, _, _, _, _, _, _, _⟩ := HCS.out _ hb2)
      | (go_at_call 215; refine (H1.out _ hb2).mono ?_; rintro e w3 ⟨rfl, hb3'⟩; have hb3 := bthen hb2 hb3'; obtain ⟨_, _, e2, _, _, _, _, _, _⟩ := HCS.out _ hb3)
      | (go_at_call 216; refine (H2.out _ hb3).mono ?_; rintro e w4 ⟨rfl, hb4'⟩; have hb4 := bthen hb3 hb4'; obtain ⟨_, _, _, f3, f4, f5, f6, _, _⟩ := HCS.out _ hb4)
      | (go_at_call 217; (with_reducible refine (H3.out _).mono ?_); rintro e w5 ⟨rfl, rfl⟩)
      | (go_at_call 217; (with_reducible refine (H4.out _).mono ?_); rintro e w5 ⟨rfl, rfl⟩)
      | (go_at_call 217; (with_reducible refine (H5.out _).mono ?_); rintro e w5 ⟨rfl, rfl⟩)
      | (go_at_call 218; refine (H6.out _ hb4).mono ?_; rintro e w6 ⟨rfl, hb6'⟩; have hb6 := bthen hb4 hb6'; obtain ⟨_, _, _, _, _, _, _, _, g8⟩ := HCS.out _ hb6))
    all_goals
      go_ret
      exact ⟨by first | rfl | rw [h16], bthen HB.out hb6⟩
end Go.Proofs.YtkgnapojkijbgaaGreatDoor
/- The contract of routes.Right: a closure that calls itself. -/
namespace Go.Proofs.YtkgnapojkijbgaaGreatDoor
open Go.RowKit

abbrev rightF (x : Nat) : Value := .func (.func 173) #[] #[.pointer (some ⟨x, 0, none⟩)]
theorem Blk.cell1 {w : World} {g : Nat} {t : TypeId} {v : Value} (h : Blk w g t #[v]) : w.cell? ⟨g, 0, none⟩ = some v := h.cell 0
theorem Blk.set1 {w : World} {g : Nat} {t : TypeId} {v : Value} (h : Blk w g t #[v]) (u : Value) : Blk (w.setCell ⟨g, 0, none⟩ u) g t #[u] := h.set 0 u
theorem rightRt_succ (d : Nat) (n : Rt) : rightRt (d + 1) n = (aloneC n && n.kids.all (rightRt d)) := rfl
set_option maxHeartbeats 6400000 in
set_option maxRecDepth 100000 in
theorem right1_any (x d : Nat) : ∀ (q : RtAt) (w : World), d ≤ 4 → q.ok w → w.cell? ⟨x, 0, none⟩ = some (rightF x) → Calls Tryz.prog 173 #[.agg (tCells q), .int .i64 (5 - (d : Int)), .pointer (some ⟨x, 0, none⟩)] w (BoolB (rightRt d q.n) w) := by
  induction d with
  | zero =>
    intro q w _ h hx
    go_enter Tryz.func173, Tryz.ntmps173
    go_wp2_with fail
    go_ret
    exact ⟨rfl, (Below.refl _ _).alloc (Nat.le_refl _) _⟩
  | succ d ih =>
    intro q w hd h hx
    have hb := (Below.refl w.heap.size w).alloc (Nat.le_refl _) (.cells (tCells q) 27)
    have hB := Blk.new w 27 (tCells q)
    have hok := h.call hb
    have hx1 := cellL hb hx
    have hic := hok.head.2
    have hpl := hok.place
    have hP := rteAlone_any q _ hok.own
    obtain ⟨A, hA⟩ : ∃ A, aloneC q.n = A := ⟨_, rfl⟩
    have hR0 : rightRt (d + 1) q.n = (A && q.n.kids.all (rightRt d)) := by rw [← hA]; rfl
    have h16 : A = true → q.n.kids.length ≤ 16 := fun e => (alone_kids (by rw [hA, e])).1
    rw [hA] at hP
    obtain ⟨J, hJ, hgood, hend⟩ := kids_end (rightRt d) q.n.kids
    obtain ⟨R, hR⟩ : ∃ R, rightRt (d + 1) q.n = R := ⟨_, rfl⟩
    rw [hR] at hR0 ⊢
    have HB := Lib.hid hb
    have HPL := Lib.hid hpl
    have HP := Lib.hid hP
    have HR := Lib.hid hR0
    have H16 := Lib.hid h16
    have HG := Lib.hid hgood
    have HE := Lib.hid hend
    have HIC := Lib.hid hic
    obtain ⟨k1, hk1⟩ : ∃ k1 : Int, 5 - ((d + 1 : Nat) : Int) = k1 := ⟨_, rfl⟩
    have hk2 : k1 + 1 = 5 - (d : Int) := by omega
    have hk4 : ¬ 4 < k1 := by omega
    have hk0 : 0 ≤ k1 := by omega
    rw [hk1]
    have HK := Lib.hid hk2
    clear h hb hok hpl hP hR0 h16 hgood hend hR hA hic hk1 hk2 hx
    obtain ⟨n, ma, mc, ba, bc, ua, uc, ka, kc⟩ := q
    simp only [tCells] at *
    go_enter Tryz.func173, Tryz.ntmps173
    go_upto_region 1 with fail
    generalize w.alloc (.cells #[.string n.recv, .slice ma n.ms.length mc, .slice ba n.bys.length bc, .int .i64 n.wait, .int .i64 n.every, .int .i64 n.rep, .slice ua n.mute.length uc, .bool n.on, .slice ka n.kids.length kc] 27) = wx at *
    obtain ⟨c0, c1, c2, c3, c4, c5, c6, c7, c8⟩ := hB.cells9
    cases A with
    | false =>
      obtain rfl : R = false := by rw [HR.out]; rfl
      go_wp2_with (go_at_call 174; refine HP.out.mono ?_; rintro e w2 ⟨rfl, hb2⟩)
      go_ret
      exact ⟨rfl, bthen HB.out hb2⟩
    | true =>
    have h16 := H16.out rfl
    go_upto_region 3 with (go_at_call 174; refine HP.out.mono ?_; rintro e w2 ⟨rfl, hb2⟩; obtain ⟨d0, d1, d2, d3, d4, d5, d6, d7, d8⟩ := (hB.call hb2).cells9)
    have HR2 : Hid (R = n.kids.all (rightRt d)) := Lib.hid (by rw [HR.out]; rfl)
    by_cases hz0 : n.kids.length = 0
    · have hi0 : n.kids = [] := List.eq_nil_of_length_eq_zero hz0
      obtain rfl : R = true := by rw [HR2.out, hi0]; rfl
      clear hi0
      go_wp2_with fail
      refine wp_loop_rounds 1 ?_
      rw [rounds_succ]
      go_wp2_with fail
      go_ret
      exact ⟨rfl, bthen HB.out hb2⟩
    obtain ⟨b1, o1, rfl, hitems⟩ : ∃ b off, ka = some ⟨b, off, none⟩ ∧ ∀ i (h : i < n.kids.length), ∃ r : RtAt, r.n = n.kids[i] ∧ r.lies wx b (off + i * 9) ∧ r.ok wx := by
      rcases HPL.out with h | ⟨b, off, h1, _, h3⟩
      · exact absurd (by rw [h]; rfl) hz0
      · exact ⟨b, off, h1, h3⟩
    have HI := Lib.hid hitems
    have hic := HIC.out
    have HX := Lib.hid (fun W (hW : Below wx.heap.size wx W) => cellL hW hx1)
    clear hitems hz0 hx1 c0 c1 c2 c3 c4 c5 c6 c7 c8
    unfold maxLen at hic
    go_wp2_with fail
    go_loopg [18, 7] n.kids.length (fun gg iv _ wr => ∃ k : Nat, k + gg = n.kids.length ∧ k ≤ J ∧ iv = .int .i64 k ∧ Below wx.heap.size wx wr)
    case atStart => exact ⟨0, by omega, Nat.zero_le _, rfl, hb2⟩
    case round =>
      obtain ⟨k, hkg, hkJ, rfl, hbr⟩ := hrel
      cases gk with
      | zero =>
        rcases HE.out with ⟨_, hR⟩ | ⟨hj, _⟩
        · obtain rfl : R = true := by rw [HR2.out, hR]
          obtain rfl : k = n.kids.length := by omega
          clear hR
          go_wp2_with fail
          go_ret
          exact ⟨rfl, bthen HB.out hbr⟩
        · omega
      | succ gg =>
        have hkl : k < n.kids.length := by omega
        obtain ⟨r, hrn, hrl, hro⟩ := HI.out k hkl
        obtain ⟨e0, e1, e2, e3, e4, e5, e6, e7, e8⟩ := hrl.call hbr
        have hro' := hro.call hbr
        have hbn := (Below.refl wr.heap.size wr).alloc (Nat.le_refl _) (.cells (tCells r) 27)
        have hro2 := hro'.call hbn
        have hxn := HX.out _ (bthen hbr hbn)
        have hih := ih r _ (by omega) hro2 hxn
        rw [← HK.out] at hih
        obtain ⟨X, hX⟩ : ∃ X, rightRt d r.n = X := ⟨_, rfl⟩
        have hXJ : X = rightRt d n.kids[k] := by rw [← hX, hrn]
        rw [hX] at hih
        obtain ⟨f0, f1, f2, f3, f4, f5, f6, f7, f8⟩ := (Blk.new wr 27 (tCells r)).cells9
        have HIH := Lib.hid hih
        have HXX := Lib.hid hXJ
        have HBN := Lib.hid hbn
        clear hX hrn hrl hro hro' hro2 hih hXJ hbn d0 d1 d2 d3 d4 d5 d6 d7 d8
        obtain ⟨m, ma', mc', ba', bc', ua', uc', ka', kc'⟩ := r
        simp only [tCells] at *
        by_cases hkJ2 : k = J
        · subst hkJ2
          rcases HE.out with ⟨h, _⟩ | ⟨_, hbad, hR⟩
          · omega
          · obtain rfl : R = false := by rw [HR2.out, hR]
            obtain rfl : X = false := by rw [HXX.out, hbad]
            clear hbad hR
            go_wp2_with (go_at_call 173; refine HIH.out.mono ?_; rintro e w3 ⟨rfl, hb3⟩)
            go_ret
            exact ⟨rfl, bthen HB.out (bthen hbr (bthen HBN.out hb3))⟩
        · obtain rfl : X = true := by rw [HXX.out, HG.out k hkl (by omega)]
          go_wp2_with (go_at_call 173; refine HIH.out.mono ?_; rintro e w3 ⟨rfl, hb3⟩)
          go_roundg gg
          case measure => omega
          case rel => exact ⟨k + 1, by omega, by omega, by go_num, bthen hbr (bthen HBN.out hb3)⟩

set_option maxHeartbeats 1600000 in
set_option maxRecDepth 100000 in
theorem rteRight_any (q : RtAt) (w : World) (h : q.ok w) : Calls Tryz.prog 117 #[.agg (tCells q)] w (BoolB (rteC q.n) w) := by
  have hb := (Below.refl w.heap.size w).alloc (Nat.le_refl _) (.cells (tCells q) 27)
  have hB := Blk.new w 27 (tCells q)
  have hz : (w.alloc (.cells (tCells q) 27)).heap.size = w.heap.size + 1 := by simp
  have hX := Blk.new (w.alloc (.cells (tCells q) 27)) 114 #[rightF (w.heap.size + 1)]
  rw [hz] at hX
  have hB3 := hB.alloc (.cells #[rightF (w.heap.size + 1)] 114)
  have hb3 := hb.alloc (by omega) (.cells #[rightF (w.heap.size + 1)] 114)
  have hr := right1_any (w.heap.size + 1) 4 q _ (Nat.le_refl _) (h.call hb3) hX.cell1
  rw [show rightRt 4 q.n = rteC q.n from rfl, show (5 - ((4 : Nat) : Int)) = 1 from rfl] at hr
  have HB := Lib.hid hb3
  have HR := Lib.hid hr
  obtain ⟨c0, c1, c2, c3, c4, c5, c6, c7, c8⟩ := hB3.cells9
  have hx3 := hX.cell1
  clear hb hB hz hX hb3 hB3 hr h
  obtain ⟨n, ma, mc, ba, bc, ua, uc, ka, kc⟩ := q
  simp only [tCells, rightF] at *
  go_enter Tryz.func117, Tryz.ntmps117
  go_upto_region 3 with fail
  generalize (w.alloc (.cells #[.string n.recv, .slice ma n.ms.length mc, .slice ba n.bys.length bc, .int .i64 n.wait, .int .i64 n.every, .int .i64 n.rep, .slice ua n.mute.length uc, .bool n.on, .slice ka n.kids.length kc] 27)).alloc (.cells #[.func (.func 173) #[] #[.pointer (some ⟨w.heap.size + 1, 0, none⟩)]] 114) = wz at *
  go_wp2_with (go_at_call 173; refine HR.out.mono ?_; rintro e w3 ⟨rfl, hb3⟩)
  go_ret
  exact ⟨rfl, bthen HB.out hb3⟩
end Go.Proofs.YtkgnapojkijbgaaGreatDoor
/- What gather of routes keeps: the texts so far, how often each came, and the cells that its closure holds. -/
namespace Go.Proofs.YtkgnapojkijbgaaGreatDoor
open Go.RowKit

theorem OwnS.type {T : TypeId} {w : World} {base : Nat} {v : Value} {l : List ByteArray} (h : OwnS T w base v l) {k : Nat} (hk : v.ownBlock = some k) : ∃ cs fr, w.heap[k]? = some (.cells cs T fr) := by
  rcases h.2 with ⟨rfl, h0⟩ | ⟨g, cap, cur, rfl, hb, hg, hn, hm, hcs, ht⟩
  · cases hk
  · obtain rfl : g = k := by simpa [Value.ownBlock] using hk
    exact ⟨_, _, hg⟩
theorem OwnS.form {T : TypeId} {w : World} {base : Nat} {v : Value} {l : List ByteArray} (h : OwnS T w base v l) : ∃ a c, v = .slice a l.length c ∧ l.length ≤ c ∧ c ≤ maxLen := by
  rcases h.2 with ⟨rfl, h0⟩ | ⟨g, cap, cur, rfl, hb, hg, hn, hm, hcs, ht⟩
  · exact ⟨none, 0, by rw [h0], by omega, by unfold maxLen; omega⟩
  · exact ⟨_, cap, rfl, hn, hm⟩
theorem OwnS.other {T : TypeId} {w : World} {base f : Nat} {v : Value} {l : List ByteArray} {t : TypeId} {cs : Array Value} (h : OwnS T w base v l) (hF : Blk w f t cs) (ht : t ≠ T) : some f ≠ v.ownBlock := fun e => by
  obtain ⟨cs', fr, e2⟩ := h.type e.symm
  rw [show w.heap[f]? = some (.cells cs t (0, 0)) from hF] at e2
  simp at e2
  exact ht e2.2.1
theorem CntIs.other {w : World} {b f : Nat} {L : List ByteArray} {t : TypeId} {cs : Array Value} (h : CntIs w b L) (hF : Blk w f t cs) : f ≠ b := fun e => by
  obtain ⟨D, ⟨es, clock, h1, _⟩, _⟩ := h
  rw [← e, show w.heap[f]? = some (.cells cs t (0, 0)) from hF] at h1
  cases h1
theorem CntIs.row {w : World} {T : TypeId} {base b : Nat} {v : Value} {L l : List ByteArray} (h : CntIs w b L) (ho : OwnS T w base v l) : some b ≠ v.ownBlock := fun e => by
  obtain ⟨D, ⟨es, clock, h1, _⟩, _⟩ := h
  obtain ⟨cs', fr, e2⟩ := ho.type e.symm
  rw [e2] at h1
  cases h1
/-- what lies in blocks of its own stays, rows of texts and cells for them aside -/
def KeepR (w w' : World) : Prop := w.heap.size ≤ w'.heap.size ∧ ∀ g t cs, t ≠ 24 → t ≠ 9 → Blk w g t cs → Blk w' g t cs
theorem KeepR.refl (w : World) : KeepR w w := ⟨Nat.le_refl _, fun _ _ _ _ _ h => h⟩
theorem KeepR.trans {w w1 w2 : World} (h : KeepR w w1) (k : KeepR w1 w2) : KeepR w w2 := ⟨Nat.le_trans h.1 k.1, fun g t cs h1 h2 hb => k.2 g t cs h1 h2 (h.2 g t cs h1 h2 hb)⟩
theorem KeepR.of {w w' : World} (h : Below w.heap.size w w') : KeepR w w' := ⟨h.size, fun _ _ _ _ _ hb => hb.call h⟩
/-- the cells of gather's closure (the function that tells, the map, the row), and what they hold when the texts L have come -/
structure GatW (w0 : World) (F tB cB aB mB : Nat) (W : World) (v : Value) (L : List ByteArray) : Prop where
  below : Below w0.heap.size w0 W
  tell : Blk W tB 184 #[.func (.func F) #[] #[]]
  times : Blk W cB 212 #[.map (some mB)]
  all : Blk W aB 24 #[v]
  own : OwnS 9 W w0.heap.size v (onceL L)
  cnt : CntIs W mB L
  young : w0.heap.size ≤ aB ∧ w0.heap.size ≤ mB
theorem GatW.call {w0 W W1 : World} {F tB cB aB mB : Nat} {v : Value} {L : List ByteArray} (h : GatW w0 F tB cB aB mB W v L) (hb : Below W.heap.size W W1) : GatW w0 F tB cB aB mB W1 v L :=
  ⟨h.below.trans (hb.mono h.below.size), h.tell.call hb, h.times.call hb, h.all.call hb, h.own.call hb, h.cnt.call hb, h.young⟩
/-- a text that came before -/
theorem GatW.old {w0 W W1 : World} {F tB cB aB mB : Nat} {v : Value} {L : List ByteArray} {s : ByteArray} (h : GatW w0 F tB cB aB mB W v L) (hs : cntL L s ≠ 0) (hc : CntIs W1 mB (L ++ [s])) (hg : W.grownBy W1 (some mB)) :
    GatW w0 F tB cB aB mB W1 v (L ++ [s]) ∧ KeepR W W1 := by
  have n1 := h.cnt.other h.tell
  have n2 := h.cnt.other h.times
  have n3 := h.cnt.other h.all
  refine ⟨⟨h.below.grown hg h.below.size (fun k hk => by rw [← Option.some.inj hk]; exact h.young.2), h.tell.push hg (fun e => n1 (Option.some.inj e)), h.times.push hg (fun e => n2 (Option.some.inj e)), h.all.push hg (fun e => n3 (Option.some.inj e)), ?_, hc, h.young⟩, hg.size, fun g t cs _ _ hb => hb.push hg (fun e => h.cnt.other hb (Option.some.inj e))⟩
  rw [once_old hs]
  exact World.ownsRow.kept h.own hg (.inr (fun e => h.cnt.row h.own e.symm))
theorem GatW.mid {w0 W W1 : World} {F tB cB aB mB : Nat} {v : Value} {L : List ByteArray} {s : ByteArray} (h : GatW w0 F tB cB aB mB W v L) (_hc : CntIs W1 mB (L ++ [s])) (hg : W.grownBy W1 (some mB)) :
    Below w0.heap.size w0 W1 ∧ Blk W1 tB 184 #[.func (.func F) #[] #[]] ∧ Blk W1 cB 212 #[.map (some mB)] ∧ Blk W1 aB 24 #[v] ∧ OwnS 9 W1 w0.heap.size v (onceL L) ∧ KeepR W W1 := by
  have n1 := h.cnt.other h.tell
  have n2 := h.cnt.other h.times
  have n3 := h.cnt.other h.all
  exact ⟨h.below.grown hg h.below.size (fun k hk => by rw [← Option.some.inj hk]; exact h.young.2), h.tell.push hg (fun e => n1 (Option.some.inj e)), h.times.push hg (fun e => n2 (Option.some.inj e)), h.all.push hg (fun e => n3 (Option.some.inj e)), World.ownsRow.kept h.own hg (.inr (fun e => h.cnt.row h.own e.symm)), hg.size, fun g t cs _ _ hb => hb.push hg (fun e => h.cnt.other hb (Option.some.inj e))⟩
/-- a text that is new -/
theorem GatW.new {w0 W W1 W2 : World} {F tB cB aB mB : Nat} {v v2 : Value} {L : List ByteArray} {s : ByteArray} (h : GatW w0 F tB cB aB mB W v L) (hs : cntL L s = 0) (hc : CntIs W1 mB (L ++ [s])) (hg : W.grownBy W1 (some mB))
    (ho : OwnS 9 W2 w0.heap.size v2 (onceL L ++ [s])) (hg2 : W1.grownBy W2 v.ownBlock) : GatW w0 F tB cB aB mB (W2.setCell ⟨aB, 0, none⟩ v2) v2 (L ++ [s]) ∧ KeepR W (W2.setCell ⟨aB, 0, none⟩ v2) := by
  obtain ⟨m1, m2, m3, m4, m5, m6⟩ := h.mid hc hg
  have t2 := m2.push hg2 (m5.other m2 (by decide))
  have t3 := m3.push hg2 (m5.other m3 (by decide))
  have t4 := m4.push hg2 (m5.other m4 (by decide))
  have t6 := hc.kept hg2 (hc.row m5)
  have b2 : Below w0.heap.size w0 W2 := m1.grown hg2 m1.size (fun k hk => (World.ownsRow.lt m5 k hk).1)
  have ne : ∀ {f : Nat} {t : TypeId} {cs : Array Value}, Blk W2 f t cs → t ≠ 24 → f ≠ aB := by
    intro f t cs hb ht e
    rw [e] at hb
    have := (show W2.heap[aB]? = _ from hb).symm.trans (show W2.heap[aB]? = _ from t4)
    simp at this
    exact ht this.2
  have gs := grown_setCell W2 aB 0 v2
  refine ⟨⟨b2.setCell (p := ⟨aB, 0, none⟩) h.young.1 v2, t2.setO _ _ (ne t2 (by decide)), t3.setO _ _ (ne t3 (by decide)), t4.set 0 v2, ?_, t6.kept gs (fun e => t6.other t4 (Option.some.inj e).symm), h.young⟩, ?_, fun g t cs ht1 ht2 hb => ?_⟩
  · rw [once_new hs]
    exact World.ownsRow.kept ho gs (.inr (fun e => ho.other t4 (by decide) e.symm))
  · have := m6.1
    have := hg2.size
    have := gs.size
    omega
  · have h1 := m6.2 g t cs ht1 ht2 hb
    have h2 := h1.push hg2 (m5.other h1 ht2)
    exact h2.setO _ _ (ne h2 ht1)
/-- what the closure does with one route -/
def GatP (w0 : World) (F tB cB aB mB : Nat) (W : World) (M : List ByteArray) (e : Ending) (W' : World) : Prop := e = .returned (.tuple #[]) ∧ (∃ v', GatW w0 F tB cB aB mB W' v' M) ∧ KeepR W W'
end Go.Proofs.YtkgnapojkijbgaaGreatDoor
/- The document's own row of a route and all within it. -/
namespace Go.Proofs.YtkgnapojkijbgaaGreatDoor
open Go.RowKit

mutual
/-- a route and all within it, each ahead of those within it -/
def Rt.all : Rt → List Rt
  | .mk r m b a e p u o xs => .mk r m b a e p u o xs :: allRs xs
def allRs : List Rt → List Rt
  | [] => []
  | x :: xs => x.all ++ allRs xs
end
theorem Rt.all_eq (n : Rt) : n.all = n :: allRs n.kids := by cases n; rfl
theorem allRs_take (xs : List Rt) (k : Nat) (h : k < xs.length) : allRs (xs.take (k + 1)) = allRs (xs.take k) ++ xs[k].all := by
  induction xs generalizing k with
  | nil => simp at h
  | cons x xs ih =>
    cases k with
    | zero => simp [allRs]
    | succ k =>
      have := ih k (by simpa using h)
      simp only [List.take_succ_cons, allRs, List.getElem_cons_succ, List.append_assoc]
      rw [this]
mutual
theorem Rt.all_len : ∀ (n : Rt), n.all.length = n.count
  | .mk r m b a e p u o xs => by
    have := allRs_len xs
    simp only [Rt.all, Rt.count, List.length_cons]
    omega
theorem allRs_len : ∀ (xs : List Rt), (allRs xs).length = countRs xs
  | [] => rfl
  | x :: xs => by
    have h1 := Rt.all_len x
    have h2 := allRs_len xs
    simp only [allRs, countRs, List.length_append]
    omega
end

def rtV (q : RtAt) : List Value := [.string q.n.recv, .slice q.ma q.n.ms.length q.mc, .slice q.ba q.n.bys.length q.bc, .int .i64 q.n.wait, .int .i64 q.n.every, .int .i64 q.n.rep, .slice q.ua q.n.mute.length q.uc, .bool q.n.on, .slice q.ka q.n.kids.length q.kc]
def rtsV (rs : List RtAt) : List Value := rs.flatMap rtV
theorem rtsV_len : ∀ (rs : List RtAt), (rtsV rs).length = rs.length * 9
  | [] => rfl
  | t :: ts => by
    have ih := rtsV_len ts
    have e : rtsV (t :: ts) = rtV t ++ rtsV ts := rfl
    rw [e, List.length_append, ih, List.length_cons]
    show 9 + _ = _
    omega
theorem rtsV_app (a b : List RtAt) : rtsV (a ++ b) = rtsV a ++ rtsV b := by simp [rtsV]
theorem rtsV_one (rs : List RtAt) : ∀ u ∈ rtsV rs, u.oneCell' = true := by
  intro u hu
  obtain ⟨t, _, h⟩ := List.mem_flatMap.1 hu
  simp only [rtV, List.mem_cons, List.not_mem_nil, or_false] at h
  rcases h with rfl | rfl | rfl | rfl | rfl | rfl | rfl | rfl | rfl <;> rfl
theorem rtsV_get : ∀ (ts : List RtAt) (i : Nat) (h : i < ts.length) (j : Nat), j < 9 → (rtsV ts)[i * 9 + j]? = (rtV ts[i])[j]?
  | t :: ts, 0, _, j, hj => by
    have e : rtsV (t :: ts) = rtV t ++ rtsV ts := rfl
    rw [e, Nat.zero_mul, Nat.zero_add, List.getElem?_append_left (show j < (rtV t).length from hj)]
    rfl
  | t :: ts, i + 1, h, j, hj => by
    have e : rtsV (t :: ts) = rtV t ++ rtsV ts := rfl
    have ih := rtsV_get ts i (by simpa using h) j hj
    rw [e, List.getElem?_append_right (show (rtV t).length ≤ _ by show 9 ≤ _; omega), show (i + 1) * 9 + j - (rtV t).length = i * 9 + j by show _ - 9 = _; omega, ih]
    rfl
/-- v is the call's own slice of the routes rs -/
def OwnR (w : World) (base : Nat) (v : Value) (rs : List RtAt) : Prop := w.ownsRow base 27 9 v rs.length (rtsV rs)
theorem OwnR.call {w w1 : World} {base : Nat} {v : Value} {l : List RtAt} (h : OwnR w base v l) (hb : Below w.heap.size w w1) : OwnR w1 base v l :=
  World.ownsRow.kept h (row := none) ⟨hb.os, hb.tape, hb.output, hb.size, fun k hk _ => hb.block k hk⟩ (by cases v.ownBlock <;> simp)
theorem OwnR.one (w : World) (q : RtAt) (B : Nat) (hB : B ≤ w.heap.size) : OwnR (w.alloc (.cells (tCells q) 27)) B (.slice (some ⟨w.heap.size, 0, none⟩) 1 1) [q] := by
  refine ⟨rfl, .inr ⟨w.heap.size, 1, tCells q, rfl, hB, ?_, Nat.le_refl _, by unfold maxLen; omega, rfl, by simp [rtsV, rtV]⟩⟩
  exact Blk.new w 27 (tCells q)
/-- the slice of block g reads as the routes rs -/
def RowR (w : World) (g : Nat) (rs : List RtAt) : Prop := ∀ j u, (rtsV rs)[j]? = some u → w.cell? ⟨g, j, none⟩ = some u
theorem RowR.call {w w1 : World} {g : Nat} {rs : List RtAt} (h : RowR w g rs) (hb : Below w.heap.size w w1) : RowR w1 g rs := fun j u hu => cellL hb (h j u hu)
theorem RowR.lies {w : World} {g : Nat} {rs : List RtAt} (h : RowR w g rs) (i : Nat) (hi : i < rs.length) : rs[i].lies w g (i * 9) := by
  have k := fun j (hj : j < 9) (u : Value) (hu : (rtV rs[i])[j]? = some u) => h (i * 9 + j) u ((rtsV_get rs i hi j hj).trans hu)
  exact ⟨k 0 (by omega) _ rfl, k 1 (by omega) _ rfl, k 2 (by omega) _ rfl, k 3 (by omega) _ rfl, k 4 (by omega) _ rfl, k 5 (by omega) _ rfl, k 6 (by omega) _ rfl, k 7 (by omega) _ rfl, k 8 (by omega) _ rfl⟩
theorem OwnR.out {w : World} {base : Nat} {v : Value} {rs : List RtAt} (h : OwnR w base v rs) (hne : rs ≠ []) : ∃ g c, v = .slice (some ⟨g, 0, none⟩) rs.length c ∧ base ≤ g ∧ rs.length ≤ c ∧ c ≤ maxLen ∧ RowR w g rs := by
  rcases h.2 with ⟨_, h0⟩ | ⟨g, cap, cur, e, hb, hg, hn, hm, hcs, ht⟩
  · exact absurd (List.eq_nil_of_length_eq_zero h0) hne
  · refine ⟨g, cap, e, hb, hn, hm, fun j u hu => ?_⟩
    have := World.ownsRow.cells h (g := g) (by rw [e]; rfl) j u hu
    have e0 : (⟨g, 0, none⟩ : Addr).add j = ⟨g, j, none⟩ := by unfold Addr.add; split <;> simp_all
    rwa [e0] at this
abbrev rtZ : Value := .agg #[.string ⟨#[]⟩, .slice none 0 0, .slice none 0 0, .int .i64 0, .int .i64 0, .int .i64 0, .slice none 0 0, .bool false, .slice none 0 0]
theorem Tryz.infoR : (Tryz.prog.info? 27).map (fun i => (i.zero, i.size, i.bytes)) = some (some rtZ, 9, 144) := by kernel_rfl
theorem info_partsR {x : Option TypeInfo} (h : x.map (fun i => (i.zero, i.size, i.bytes)) = some (some rtZ, 9, 144)) : ∃ i, x = some i ∧ i.zero = some rtZ ∧ i.size = 9 ∧ i.bytes = 144 := by
  cases x with
  | none => cases h
  | some i => simp at h; exact ⟨i, rfl, h.1, h.2.1, h.2.2⟩

def AllP (w0 : World) (q : RtAt) (W : World) (e : Ending) (W' : World) : Prop :=
  ∃ g c rs, e = .returned (.slice (some ⟨g, 0, none⟩) (List.length rs) c) ∧ W.heap.size ≤ g ∧ rs.map (fun r : RtAt => r.n) = q.n.all ∧ (∀ r ∈ rs, r.ok w0) ∧ RowR W' g rs ∧ rs.length ≤ c ∧ c ≤ maxLen ∧ Below W.heap.size W W'
def AllAll (w0 : World) (q : RtAt) : Prop := ∀ W, Below w0.heap.size w0 W → q.n.count ≤ 100000 → Calls Tryz.prog 39 #[.agg (tCells q)] W (AllP w0 q W)
set_option maxHeartbeats 6400000 in
set_option maxRecDepth 100000 in
theorem all_step {w0 : World} (q : RtAt) (hq : q.ok w0) (HK : q.n.kids = [] ∨ ∃ b off, q.ka = some ⟨b, off, none⟩ ∧ b < w0.heap.size ∧ ∀ i (h : i < q.n.kids.length), ∃ r : RtAt, r.n = q.n.kids[i] ∧ r.lies w0 b (off + i * 9) ∧ r.ok w0 ∧ AllAll w0 r) : AllAll w0 q := by
  intro W hW hcnt
  obtain ⟨i0, hi, hz0, hz1, hz2⟩ := info_partsR Tryz.infoR
  have hb := (Below.refl W.heap.size W).alloc (Nat.le_refl _) (.cells (tCells q) 27)
  have hB := Blk.new W 27 (tCells q)
  have hz : (W.alloc (.cells (tCells q) 27)).heap.size = W.heap.size + 1 := by simp
  have hown := OwnR.one (W.alloc (.cells (tCells q) 27)) q (W.heap.size + 1) (by omega)
  have hb1 := (Below.refl (W.heap.size + 1) (W.alloc (.cells (tCells q) 27))).alloc (by omega) (.cells (tCells q) 27)
  have hB1 := hB.alloc (.cells (tCells q) 27)
  have hkc := hq.head.2
  have hce := q.n.count_eq
  have hae := q.n.all_eq
  rw [hz] at hown
  have HQ := Lib.hid hq
  have HKK := Lib.hid HK
  have HWW := Lib.hid (hW.trans ((hb.mono hW.size).trans (hb1.mono (by have := hW.size; omega))))
  have HBB := Lib.hid (hb.trans (hb1.mono (by omega)))
  have HAE := Lib.hid hae
  have HCE := Lib.hid hce
  have HCN := Lib.hid hcnt
  have hzz : W.heap.size + 1 ≤ ((W.alloc (.cells (tCells q) 27)).alloc (.cells (tCells q) 27)).heap.size := by simp
  have hws : w0.heap.size ≤ W.heap.size + 1 := by have := hW.size; omega
  clear HK hq hW hb hb1 hae hcnt hce
  obtain ⟨n, ma, mc, ba, bc, ua, uc, ka, kc⟩ := q
  simp only [tCells] at *
  unfold maxLen at hkc
  obtain ⟨c0, c1, c2, c3, c4, c5, c6, c7, c8⟩ := hB.cells9
  go_enter Tryz.func39, Tryz.ntmps39
  go_upto_region 2 with fail
  clear c0 c1 c2 c3 c4 c5 c6 c7 c8
  generalize (W.alloc (.cells #[.string n.recv, .slice ma n.ms.length mc, .slice ba n.bys.length bc, .int .i64 n.wait, .int .i64 n.every, .int .i64 n.rep, .slice ua n.mute.length uc, .bool n.on, .slice ka n.kids.length kc] 27)).alloc (.cells #[.string n.recv, .slice ma n.ms.length mc, .slice ba n.bys.length bc, .int .i64 n.wait, .int .i64 n.every, .int .i64 n.rep, .slice ua n.mute.length uc, .bool n.on, .slice ka n.kids.length kc] 27) = wx at *
  obtain ⟨c0, c1, c2, c3, c4, c5, c6, c7, c8⟩ := hB1.cells9
  clear hB hB1 hz
  by_cases hl0 : n.kids.length = 0
  · have hk0 : n.kids = [] := List.eq_nil_of_length_eq_zero hl0
    have hfin : [n] = n.all := by rw [HAE.out, hk0]; rfl
    obtain ⟨g, c', e, hg, hc1, hc2, hrow⟩ := hown.out (List.cons_ne_nil _ _)
    simp only [Value.slice.injEq, Option.some.injEq, Addr.mk.injEq] at e
    obtain ⟨⟨rfl, hx1⟩, hx2, rfl⟩ := e
    clear hx1 hx2
    have HF := Lib.hid hfin
    have HR := Lib.hid hrow
    rw [hl0] at c8
    clear hk0 hfin hrow hown hg hc1 hc2 hws hzz hl0 hkc c0 c1 c2 c3 c4 c5 c6 c7
    go_wp2_with fail
    refine wp_loop_rounds 1 ?_
    rw [rounds_succ]
    go_wp2_with fail
    go_ret
    exact ⟨_, 1, [⟨n, ma, mc, ba, bc, ua, uc, ka, kc⟩], rfl, by omega, HF.out, fun r hr => by rw [List.mem_singleton] at hr; rw [hr]; exact HQ.out, HR.out, Nat.le_refl _, by unfold maxLen; omega, HBB.out⟩
  · obtain ⟨kb, kof, rfl, _, hkk⟩ : ∃ b off, ka = some ⟨b, off, none⟩ ∧ b < w0.heap.size ∧ ∀ i (h : i < n.kids.length), ∃ r : RtAt, r.n = n.kids[i] ∧ r.lies w0 b (off + i * 9) ∧ r.ok w0 ∧ AllAll w0 r := by
      rcases HKK.out with h | h
      · exact absurd (by rw [h]; rfl) hl0
      · exact h
    have HKI := Lib.hid hkk
    clear hkk HKK hl0 c0 c1 c2 c3 c4 c5 c6 c7
    go_wp2_with fail
    clear c8
    go_loopg [11, 3, 5] n.kids.length (fun gg iv v _ wr => ∃ (k : Nat) (rs : List RtAt), k + gg = n.kids.length ∧ iv = .int .i64 (k : Int) ∧ OwnR wr (W.heap.size + 1) v rs ∧ Hid (rs.map (fun r : RtAt => r.n) = n :: allRs (n.kids.take k)) ∧ Hid (∀ r ∈ rs, r.ok w0) ∧ Below (W.heap.size + 1) wx wr ∧ W.heap.size + 1 ≤ wr.heap.size)
    case atStart => exact ⟨0, [_], by omega, rfl, hown, Lib.hid (by simp [allRs]), Lib.hid (fun r hr => by rw [List.mem_singleton] at hr; rw [hr]; exact HQ.out), Below.refl _ _, hzz⟩
    case round =>
      obtain ⟨k, rs, hkg, rfl, hownk, HM, HO, hbr, hzr⟩ := hrel
      cases gk with
      | zero =>
        obtain rfl : k = n.kids.length := by omega
        have hall : rs.map (fun r : RtAt => r.n) = n.all := by rw [HM.out, List.take_length, HAE.out]
        have hne : rs ≠ [] := fun e => by
          have := HM.out
          rw [e] at this
          cases this
        obtain ⟨g, c', rfl, hg, hc1, hc2, hrow⟩ := hownk.out hne
        have HA := Lib.hid hall
        have HR := Lib.hid hrow
        have HBR := Lib.hid hbr
        clear hall hne hrow hownk hbr hown
        go_wp2_with fail
        go_ret
        exact ⟨g, c', rs, rfl, by omega, HA.out, HO.out, HR.out, hc1, hc2, HBB.out.trans (HBR.out.mono (by omega))⟩
      | succ gg =>
        have hkl : k < n.kids.length := by omega
        obtain ⟨r, hrn, hrl, hro, hra⟩ := HKI.out k hkl
        have hbw := HWW.out.trans (hbr.mono hws)
        obtain ⟨e0, e1, e2, e3, e4, e5, e6, e7, e8⟩ := hrl.call hbw
        have hbn := (Below.refl wr.heap.size wr).alloc (Nat.le_refl _) (.cells (tCells r) 27)
        have hat := allRs_take n.kids k hkl
        have hct := countRs_take n.kids k hkl
        have hct2 : countRs (n.kids.take (k + 1)) ≤ countRs n.kids := by
          rw [← allRs_len, ← allRs_len]
          conv => rhs; rw [← List.take_append_drop (k + 1) n.kids]
          have happ : ∀ (a b : List Rt), allRs (a ++ b) = allRs a ++ allRs b := by
            intro a b
            induction a with
            | nil => rfl
            | cons x a ih => simp only [List.cons_append, allRs, ih, List.append_assoc]
          rw [happ, List.length_append]
          omega
        rw [← hrn] at hat hct
        have hrc : r.n.count ≤ 100000 := by have := HCE.out; have := HCN.out; omega
        have hrl2 : rs.length ≤ 100000 := by
          have := congrArg List.length HM.out
          rw [List.length_map, List.length_cons, allRs_len] at this
          have := HCE.out; have := HCN.out
          have h1 : 1 ≤ r.n.count := by rw [Rt.count_eq]; omega
          omega
        have hall := hra _ (hbw.trans (hbn.mono hbw.size)) hrc
        obtain ⟨f0, f1, f2, f3, f4, f5, f6, f7, f8⟩ := (Blk.new wr 27 (tCells r)).cells9
        have hownn := hownk.call hbn
        have hbrn := hbr.trans (hbn.mono hzr)
        have hzn : W.heap.size + 1 ≤ (wr.alloc (.cells (tCells r) 27)).heap.size := Nat.le_trans hzr hbn.size
        have HL9 := Lib.hid (fun (rs' : List RtAt) (h : rs'.map (fun r : RtAt => r.n) = r.n.all) => (show rs'.length ≤ 100000 by
          have h := congrArg List.length h
          rw [List.length_map, Rt.all_len] at h
          omega))
        have HALL := Lib.hid hall
        have HAT := Lib.hid hat
        have HBRN := Lib.hid hbrn
        clear hrn hrl hro hra hbw hat hct hct2 hall hbrn hbn hownk hbr hown
        obtain ⟨r, ma', mc', ba', bc', ua', uc', ka', kc'⟩ := r
        simp only [tCells] at *
        go_wp2_with (first
          | (go_at_call 39; refine HALL.out.mono ?_; rintro e w3 ⟨g', c', rs', rfl, hg', hm', hok', hrow', hc1', hc2', hb3⟩; have hown3 := hownn.call hb3; have hz3 := Nat.le_trans hzn hb3.size; have hl' := HL9.out rs' hm')
          | (refine wpList_append_own _ (by rfl) (.tmp 15) (.tmp 17) 25 (by rfl) (W.heap.size + 1) 27 i0 rtZ 9 144 Tryz.underlying25 hi hz0 hz1 hz2 rfl (by omega) _ rs.length (rtsV rs) (by rfl) hown3 ⟨g', 0, none⟩ rs'.length c' (rtsV rs') (by rfl) (rtsV_len rs') (fun j u hu => by have e9 : (⟨g', 0, none⟩ : Addr).add j = ⟨g', j, none⟩ := (by unfold Addr.add; split <;> simp_all); rw [e9]; exact hrow' j u hu) (rtsV_one rs') (by unfold maxLen; omega) (by omega) hz3 ?_; intro v' w4 hown4 hg4 _))
        have hb4 := (HBRN.out.trans (hb3.mono hzn)).grown hg4 hz3 (fun k hk => (World.ownsRow.lt hown3 k hk).1)
        go_roundg gg
        case measure => omega
        case rel => exact ⟨k + 1, rs ++ rs', by omega, by go_num, by unfold OwnR; rw [rtsV_app, List.length_append]; exact hown4, Lib.hid (by rw [List.map_append, HM.out, hm', HAT.out]; rfl), Lib.hid (fun x hx => (List.mem_append.1 hx).elim (HO.out x) (hok' x)), hb4, Nat.le_trans hz3 hg4.size⟩
theorem all_any {w0 : World} {q : RtAt} (h : q.ok w0) : AllAll w0 q := by
  induction h with
  | flat q h0 h1 => exact all_step q (.flat q h0 h1) (.inl h1)
  | row q b off R h0 h1 h2 h3 h4 h5 ih => exact all_step q (.row q b off R h0 h1 h2 h3 h4 h5) (.inr ⟨b, off, h1, h2, fun i hi => ⟨R i, h3 i hi, h4 i hi, h5 i hi, ih i hi⟩⟩)
end Go.Proofs.YtkgnapojkijbgaaGreatDoor
/- The contract of routes' each, as gather calls it. -/
namespace Go.Proofs.YtkgnapojkijbgaaGreatDoor
open Go.RowKit

theorem tellL_app (T : Rt → List ByteArray) (xs ys : List Rt) : tellL T (xs ++ ys) = tellL T xs ++ tellL T ys := by simp [tellL]
theorem allRs_app (a b : List Rt) : allRs (a ++ b) = allRs a ++ allRs b := by
  induction a with
  | nil => rfl
  | cons x a ih => simp only [List.cons_append, allRs, ih, List.append_assoc]
theorem tell_take (T : Rt → List ByteArray) (xs : List Rt) (k : Nat) : (tellL T (allRs (xs.take k))).length ≤ (tellL T (allRs xs)).length := by
  conv => rhs; rw [← List.take_append_drop k xs]
  rw [allRs_app, tellL_app, List.length_append]
  omega
abbrev gatF (tB cB aB : Nat) : Value := .func (.func 220) #[] #[.pointer (some ⟨tB, 0, none⟩), .pointer (some ⟨cB, 0, none⟩), .pointer (some ⟨aB, 0, none⟩)]
abbrev visF (dB vB : Nat) : Value := .func (.func 219) #[] #[.pointer (some ⟨dB, 0, none⟩), .pointer (some ⟨vB, 0, none⟩)]
structure EachW (w0 : World) (F tB cB aB mB dB vB : Nat) (W : World) (v : Value) (L : List ByteArray) : Prop where
  gat : GatW w0 F tB cB aB mB W v L
  doC : Blk W dB 183 #[gatF tB cB aB]
  vis : Blk W vB 183 #[visF dB vB]
theorem EachW.call {w0 W W1 : World} {F tB cB aB mB dB vB : Nat} {v : Value} {L : List ByteArray} (h : EachW w0 F tB cB aB mB dB vB W v L) (hb : Below W.heap.size W W1) : EachW w0 F tB cB aB mB dB vB W1 v L := ⟨h.gat.call hb, h.doC.call hb, h.vis.call hb⟩
theorem EachW.keep {w0 W W1 : World} {F tB cB aB mB dB vB : Nat} {v v1 : Value} {L M : List ByteArray} (h : EachW w0 F tB cB aB mB dB vB W v L) (hg : GatW w0 F tB cB aB mB W1 v1 M) (hk : KeepR W W1) : EachW w0 F tB cB aB mB dB vB W1 v1 M :=
  ⟨hg, hk.2 _ _ _ (by decide) (by decide) h.doC, hk.2 _ _ _ (by decide) (by decide) h.vis⟩
def EachAll (w0 : World) (F tB cB aB mB dB vB : Nat) (T : Rt → List ByteArray) (q : RtAt) : Prop :=
  ∀ (W : World) (v : Value) (L : List ByteArray), L.length + (tellL T q.n.all).length ≤ 100000000 → EachW w0 F tB cB aB mB dB vB W v L →
    Calls Tryz.prog 219 #[.agg (tCells q), .pointer (some ⟨dB, 0, none⟩), .pointer (some ⟨vB, 0, none⟩)] W (GatP w0 F tB cB aB mB W (L ++ tellL T q.n.all))
def GatAll (w0 : World) (F tB cB aB mB : Nat) (T : Rt → List ByteArray) : Prop := ∀ (q : RtAt) (W : World) (v : Value) (L : List ByteArray), q.own w0 → L.length + (T q.n).length ≤ 100000000 → GatW w0 F tB cB aB mB W v L →
  Calls Tryz.prog 220 #[.agg (tCells q), .pointer (some ⟨tB, 0, none⟩), .pointer (some ⟨cB, 0, none⟩), .pointer (some ⟨aB, 0, none⟩)] W (GatP w0 F tB cB aB mB W (L ++ T q.n))
set_option maxHeartbeats 6400000 in
set_option maxRecDepth 100000 in
theorem each_step {w0 : World} {F tB cB aB mB dB vB : Nat} {T : Rt → List ByteArray} (HG : GatAll w0 F tB cB aB mB T) (q : RtAt) (hq : q.own w0) (hkc : q.n.kids.length ≤ q.kc ∧ q.kc ≤ maxLen)
    (HK : q.n.kids = [] ∨ ∃ b off, q.ka = some ⟨b, off, none⟩ ∧ b < w0.heap.size ∧ ∀ i (h : i < q.n.kids.length), ∃ r : RtAt, r.n = q.n.kids[i] ∧ r.lies w0 b (off + i * 9) ∧ r.ok w0 ∧ EachAll w0 F tB cB aB mB dB vB T r) : EachAll w0 F tB cB aB mB dB vB T q := by
  intro W v L hL hW
  have hb := (Below.refl W.heap.size W).alloc (Nat.le_refl _) (.cells (tCells q) 27)
  have hB := Blk.new W 27 (tCells q)
  have hW1 := hW.call hb
  have hall : tellL T q.n.all = T q.n ++ tellL T (allRs q.n.kids) := by rw [Rt.all_eq]; rfl
  have hll := congrArg List.length hall
  rw [List.length_append] at hll
  have hg := HG q _ v L hq (by omega) hW1.gat
  have HGG := Lib.hid hg
  have HALL := Lib.hid hall
  have HK1 := Lib.hid (KeepR.of hb)
  have HKK := Lib.hid HK
  have HLB := Lib.hid (show L.length + (T q.n).length + (tellL T (allRs q.n.kids)).length ≤ 100000000 by omega)
  clear hg hall hb hq HK hW hL hll HG
  obtain ⟨n, ma, mc, ba, bc, ua, uc, ka, kc⟩ := q
  simp only [tCells] at *
  unfold maxLen at hkc
  go_enter Tryz.func219, Tryz.ntmps219
  go_upto_region 1 with fail
  generalize W.alloc (.cells #[.string n.recv, .slice ma n.ms.length mc, .slice ba n.bys.length bc, .int .i64 n.wait, .int .i64 n.every, .int .i64 n.rep, .slice ua n.mute.length uc, .bool n.on, .slice ka n.kids.length kc] 27) = wx at *
  obtain ⟨c0, c1, c2, c3, c4, c5, c6, c7, c8⟩ := hB.cells9
  have x1 := hW1.doC.cell1
  simp only [gatF] at x1
  go_upto_region 2 with (go_at_call 220; refine HGG.out.mono ?_; rintro e w2 ⟨rfl, ⟨v2, hg2⟩, hk2⟩)
  have hW2 := hW1.keep hg2 hk2
  have hB2 := hk2.2 _ _ _ (by decide) (by decide) hB
  have HK2 := Lib.hid (HK1.out.trans hk2)
  clear hg2 hk2 hW1 x1 c0 c1 c2 c3 c4 c5 c6 c7 c8 hB HGG HK1
  obtain ⟨-, -, -, -, -, -, -, -, c8⟩ := hB2.cells9
  clear hB2
  by_cases hl0 : n.kids.length = 0
  · have hk0 : n.kids = [] := List.eq_nil_of_length_eq_zero hl0
    have hfin : L ++ T n = L ++ tellL T n.all := by rw [HALL.out, hk0]; simp [allRs, tellL]
    have HF := Lib.hid hfin
    have HW2 := Lib.hid hW2
    rw [hl0] at c8
    clear hk0 hfin hW2 hl0 hkc
    go_wp2_with fail
    refine wp_loop_rounds 1 ?_
    rw [rounds_succ]
    go_wp2_with fail
    go_end0
    exact ⟨rfl, ⟨_, by rw [← HF.out]; exact HW2.out.gat⟩, HK2.out⟩
  · obtain ⟨kb, kof, rfl, _, hkk⟩ : ∃ b off, ka = some ⟨b, off, none⟩ ∧ b < w0.heap.size ∧ ∀ i (h : i < n.kids.length), ∃ r : RtAt, r.n = n.kids[i] ∧ r.lies w0 b (off + i * 9) ∧ r.ok w0 ∧ EachAll w0 F tB cB aB mB dB vB T r := by
      rcases HKK.out with h | h
      · exact absurd (by rw [h]; rfl) hl0
      · exact h
    have HKI := Lib.hid hkk
    clear hkk HKK hl0
    go_wp2_with fail
    clear c8
    go_loopg [12, 5] n.kids.length (fun gg iv _ wr => ∃ (k : Nat) (vk : Value), k + gg = n.kids.length ∧ iv = .int .i64 (k : Int) ∧ EachW w0 F tB cB aB mB dB vB wr vk (L ++ T n ++ tellL T (allRs (n.kids.take k))) ∧ Hid (KeepR W wr))
    case atStart => exact ⟨0, v2, by omega, rfl, by simpa [allRs, tellL] using hW2, HK2⟩
    case round =>
      obtain ⟨k, vk, hkg, rfl, hWk, HKk⟩ := hrel
      cases gk with
      | zero =>
        obtain rfl : k = n.kids.length := by omega
        have hfin : L ++ T n ++ tellL T (allRs (n.kids.take n.kids.length)) = L ++ tellL T n.all := by rw [List.take_length, HALL.out, List.append_assoc]
        rw [hfin] at hWk
        have HWK := Lib.hid hWk
        clear hWk hfin
        go_wp2_with fail
        go_end0
        exact ⟨rfl, ⟨_, HWK.out.gat⟩, HKk.out⟩
      | succ gg =>
        have hkl : k < n.kids.length := by omega
        obtain ⟨r, hrn, hrl, hro, hra⟩ := HKI.out k hkl
        obtain ⟨e0, e1, e2, e3, e4, e5, e6, e7, e8⟩ := hrl.call hWk.gat.below
        have hbn := (Below.refl wr.heap.size wr).alloc (Nat.le_refl _) (.cells (tCells r) 27)
        have hat := allRs_take n.kids k hkl
        rw [← hrn] at hat
        have hlt := tell_take T n.kids (k + 1)
        rw [hat, tellL_app, List.length_append] at hlt
        have hWn := hWk.call hbn
        have hcall := hra _ vk _ (by have := HLB.out; rw [List.length_append, List.length_append]; omega) hWn
        obtain ⟨f0, f1, f2, f3, f4, f5, f6, f7, f8⟩ := (Blk.new wr 27 (tCells r)).cells9
        have x2 := hWn.vis.cell1
        simp only [visF] at x2
        have hnx : L ++ T n ++ tellL T (allRs (n.kids.take k)) ++ tellL T r.n.all = L ++ T n ++ tellL T (allRs (n.kids.take (k + 1))) := by rw [hat, tellL_app, List.append_assoc (L ++ T n)]
        rw [hnx] at hcall
        have HCALL := Lib.hid hcall
        have HKN := Lib.hid (HKk.out.trans (KeepR.of hbn))
        have HWN := Lib.hid hWn
        clear hrn hrl hro hra hbn hat hlt hWn hcall hnx hWk HKk
        obtain ⟨r, ma', mc', ba', bc', ua', uc', ka', kc'⟩ := r
        simp only [tCells] at *
        go_wp2_with (go_at_call 219; refine HCALL.out.mono ?_; rintro e w3 ⟨rfl, ⟨v3, hg3⟩, hk3⟩)
        go_roundg gg
        case measure => omega
        case rel => exact ⟨k + 1, v3, by omega, by go_num, HWN.out.keep hg3 hk3, Lib.hid (HKN.out.trans hk3)⟩
theorem eachIn_any {w0 : World} {F tB cB aB mB dB vB : Nat} {T : Rt → List ByteArray} (HG : GatAll w0 F tB cB aB mB T) {q : RtAt} (h : q.ok w0) : EachAll w0 F tB cB aB mB dB vB T q := by
  induction h with
  | flat q h0 h1 => exact each_step HG q h0.1 h0.2 (.inl h1)
  | row q b off R h0 h1 h2 h3 h4 h5 ih => exact each_step HG q h0.1 h0.2 (.inr ⟨b, off, h1, h2, fun i hi => ⟨R i, h3 i hi, h4 i hi, h5 i hi, ih i hi⟩⟩)
end Go.Proofs.YtkgnapojkijbgaaGreatDoor
/- The contracts of routes' each and of gather of texts. -/
namespace Go.Proofs.YtkgnapojkijbgaaGreatDoor
open Go.RowKit

set_option maxHeartbeats 6400000 in
set_option maxRecDepth 100000 in
theorem each_any {w0 : World} {F tB cB aB mB : Nat} {T : Rt → List ByteArray} (HG : GatAll w0 F tB cB aB mB T) {q : RtAt} (h : q.ok w0) (W : World) (v : Value) (L : List ByteArray)
    (hL : L.length + (tellL T q.n.all).length ≤ 100000000) (hW : GatW w0 F tB cB aB mB W v L) :
    Calls Tryz.prog 175 #[.agg (tCells q), gatF tB cB aB] W (GatP w0 F tB cB aB mB W (L ++ tellL T q.n.all)) := by
  have hb1 := (Below.refl W.heap.size W).alloc (Nat.le_refl _) (.cells (tCells q) 27)
  have hz1 : (W.alloc (.cells (tCells q) 27)).heap.size = W.heap.size + 1 := by simp
  have hb2 := hb1.alloc (by omega) (.cells #[gatF tB cB aB] 183)
  have hz2 : ((W.alloc (.cells (tCells q) 27)).alloc (.cells #[gatF tB cB aB] 183)).heap.size = W.heap.size + 2 := by simp
  have hb3 := hb2.alloc (by omega) (.cells #[visF (W.heap.size + 1) (W.heap.size + 2)] 183)
  have hB := ((Blk.new W 27 (tCells q)).alloc (.cells #[gatF tB cB aB] 183)).alloc (.cells #[visF (W.heap.size + 1) (W.heap.size + 2)] 183)
  have hD := (Blk.new (W.alloc (.cells (tCells q) 27)) 183 #[gatF tB cB aB]).alloc (.cells #[visF (W.heap.size + 1) (W.heap.size + 2)] 183)
  rw [hz1] at hD
  have hV := Blk.new ((W.alloc (.cells (tCells q) 27)).alloc (.cells #[gatF tB cB aB] 183)) 183 #[visF (W.heap.size + 1) (W.heap.size + 2)]
  rw [hz2] at hV
  have hcall := eachIn_any HG h _ v L hL ⟨hW.call hb3, hD, hV⟩
  have hv1 := hV.cell1
  have HK := Lib.hid (KeepR.of hb3)
  have HC := Lib.hid hcall
  clear hb1 hz1 hb2 hz2 hb3 hD hV hcall hW h HG hL
  obtain ⟨n, ma, mc, ba, bc, ua, uc, ka, kc⟩ := q
  simp only [tCells, gatF, visF] at *
  go_enter Tryz.func175, Tryz.ntmps175
  go_upto_region 3 with fail
  generalize ((W.alloc (.cells #[.string n.recv, .slice ma n.ms.length mc, .slice ba n.bys.length bc, .int .i64 n.wait, .int .i64 n.every, .int .i64 n.rep, .slice ua n.mute.length uc, .bool n.on, .slice ka n.kids.length kc] 27)).alloc (.cells #[.func (.func 220) #[] #[.pointer (some ⟨tB, 0, none⟩), .pointer (some ⟨cB, 0, none⟩), .pointer (some ⟨aB, 0, none⟩)]] 183)).alloc (.cells #[.func (.func 219) #[] #[.pointer (some ⟨W.heap.size + 1, 0, none⟩), .pointer (some ⟨W.heap.size + 2, 0, none⟩)]] 183) = wx at *
  obtain ⟨c0, c1, c2, c3, c4, c5, c6, c7, c8⟩ := hB.cells9
  go_wp2_with (go_at_call 219; refine HC.out.mono ?_; rintro e w2 ⟨rfl, hg2, hk2⟩)
  go_end0
  exact ⟨rfl, hg2, HK.out.trans hk2⟩
/-- all of them come of routes that lie there -/
theorem all_own {w : World} {q : RtAt} (h : q.ok w) : ∀ x ∈ q.n.all, ∃ r : RtAt, r.n = x ∧ r.own w := by
  induction h with
  | flat q h0 h1 =>
    intro x hx
    rw [Rt.all_eq, h1] at hx
    simp only [allRs, List.mem_singleton] at hx
    exact ⟨q, hx.symm, h0.1⟩
  | row q b off R h0 h1 h2 h3 h4 h5 ih =>
    intro x hx
    rw [Rt.all_eq, List.mem_cons] at hx
    rcases hx with rfl | hx
    · exact ⟨q, rfl, h0.1⟩
    · have hm : ∀ (xs : List Rt), x ∈ allRs xs → ∃ y ∈ xs, x ∈ y.all := by
        intro xs
        induction xs with
        | nil => intro h; simp [allRs] at h
        | cons y ys ihy =>
          intro h
          simp only [allRs, List.mem_append] at h
          rcases h with h | h
          · exact ⟨y, List.mem_cons_self, h⟩
          · obtain ⟨z, hz, hx⟩ := ihy h
            exact ⟨z, List.mem_cons_of_mem _ hz, hx⟩
      obtain ⟨y, hy, hxy⟩ := hm _ hx
      obtain ⟨i, hi, rfl⟩ := List.mem_iff_getElem.1 hy
      rw [← h3 i hi] at hxy
      exact ih i hi x hxy
theorem tell_len {T : Rt → List ByteArray} {m : Nat} : ∀ (xs : List Rt), (∀ x ∈ xs, (T x).length ≤ m) → (tellL T xs).length ≤ xs.length * m
  | [], _ => by simp [tellL]
  | x :: xs, h => by
    have e : tellL T (x :: xs) = T x ++ tellL T xs := rfl
    have h1 := h x List.mem_cons_self
    have h2 := tell_len xs (fun y hy => h y (List.mem_cons_of_mem _ hy))
    rw [e, List.length_append, List.length_cons, Nat.succ_mul]
    omega
/-- what tells: few texts, none too long -/
def TellOk (w : World) (T : Rt → List ByteArray) : Prop := ∀ r : RtAt, r.own w → (T r.n).length ≤ 1048576 ∧ ∀ s ∈ T r.n, s.size ≤ maxLen
theorem recv_ok (w : World) : TellOk w recvT := fun r h => ⟨by simp [recvT], fun s hs => by
  simp only [recvT, List.mem_singleton] at hs
  have := h.2.2.2.1
  rw [hs]; unfold maxLen; omega⟩
theorem mute_ok (w : World) : TellOk w muteT := fun _r h => ⟨h.2.2.2.2.2.2.2, h.2.2.1.2.2.1⟩
theorem tells {w : World} {T : Rt → List ByteArray} (hT : TellOk w T) {q : RtAt} (h : q.ok w) (hc : q.n.count ≤ 60) : (tellL T q.n.all).length ≤ 62914560 ∧ ∀ s ∈ tellL T q.n.all, s.size ≤ maxLen := by
  have ha := all_own h
  constructor
  · have := tell_len (T := T) (m := 1048576) q.n.all (fun x hx => by obtain ⟨r, rfl, hr⟩ := ha x hx; exact (hT r hr).1)
    rw [Rt.all_len] at this
    omega
  · intro s hs
    obtain ⟨x, hx, hs⟩ := List.mem_flatMap.1 hs
    obtain ⟨r, rfl, hr⟩ := ha x hx
    exact (hT r hr).2 s hs
/-- what gather answers -/
def RowP (M : List ByteArray) (w : World) (e : Ending) (w' : World) : Prop := ∃ a c, e = .returned (.slice a M.length c) ∧ HasStrs w' a c M ∧ Below w.heap.size w w'
set_option maxHeartbeats 6400000 in
set_option maxRecDepth 100000 in
theorem gather_any (F : Nat) (T : Rt → List ByteArray) (w : World) (HG : ∀ tB cB aB mB, GatAll w F tB cB aB mB T) (hT : TellOk w T) (q : RtAt) (h : q.ok w) (hc : q.n.count ≤ 60) :
    Calls Tryz.prog 179 #[.agg (tCells q), .func (.func F) #[] #[]] w (RowP (onceL (tellL T q.n.all)) w) := by
  obtain ⟨hl, hs⟩ := tells hT h hc
  have hb1 := (Below.refl w.heap.size w).alloc (Nat.le_refl _) (.cells (tCells q) 27)
  have hz1 : (w.alloc (.cells (tCells q) 27)).heap.size = w.heap.size + 1 := by simp
  have hb2 := hb1.alloc (by omega) (.cells #[.func (.func F) #[] #[]] 184)
  have hz2 : ((w.alloc (.cells (tCells q) 27)).alloc (.cells #[.func (.func F) #[] #[]] 184)).heap.size = w.heap.size + 2 := by simp
  have hB2 := (Blk.new w 27 (tCells q)).alloc (.cells #[.func (.func F) #[] #[]] 184)
  have hF2 := Blk.new (w.alloc (.cells (tCells q) 27)) 184 #[.func (.func F) #[] #[]]
  rw [hz1] at hF2
  have HS := Lib.hid hs
  have HC := Lib.hid hc
  have HQ := Lib.hid h
  have hgall := fun tB cB aB mB => @each_any w F tB cB aB mB T (HG tB cB aB mB) q h
  have HEACH := Lib.hid hgall
  clear hb1 hz1 hs hc h hgall HG hT
  obtain ⟨n, ma, mc, ba, bc, ua, uc, ka, kc⟩ := q
  simp only [tCells] at *
  go_enter Tryz.func179, Tryz.ntmps179
  go_upto_region 1 with fail
  generalize (w.alloc (.cells #[.string n.recv, .slice ma n.ms.length mc, .slice ba n.bys.length bc, .int .i64 n.wait, .int .i64 n.every, .int .i64 n.rep, .slice ua n.mute.length uc, .bool n.on, .slice ka n.kids.length kc] 27)).alloc (.cells #[.func (.func F) #[] #[]] 184) = w2 at *
  have hA3 := Blk.new w2 24 #[.slice none 0 0]
  rw [hz2] at hA3
  have hb3 := hb2.alloc hb2.size (.cells #[.slice none 0 0] 24)
  have hB3 := hB2.alloc (.cells #[.slice none 0 0] 24)
  have hF3 := hF2.alloc (.cells #[.slice none 0 0] 24)
  have hz3 : (w2.alloc (.cells #[.slice none 0 0] 24)).heap.size = w.heap.size + 3 := by simp; omega
  clear hb2 hB2 hF2
  go_upto_region 2 with fail
  generalize w2.alloc (.cells #[.slice none 0 0] 24) = w3 at *
  have hmm := @run_makeMap Tryz.prog
  have hz4 : (w3.alloc (.map #[] 0)).heap.size = w3.heap.size + 1 := by simp
  have hM4 := CntIs.made w3
  rw [hz3] at hM4
  have hM5 := hM4.call ((Below.refl _ _).alloc (Nat.le_refl _) (.cells #[.map (some (w.heap.size + 3))] 212))
  have hC5 := Blk.new (w3.alloc (.map #[] 0)) 212 #[.map (some (w.heap.size + 3))]
  rw [hz4, hz3] at hC5
  have hA5 := (hA3.alloc (.map #[] 0)).alloc (.cells #[.map (some (w.heap.size + 3))] 212)
  have hB5 := (hB3.alloc (.map #[] 0)).alloc (.cells #[.map (some (w.heap.size + 3))] 212)
  have hF5 := (hF3.alloc (.map #[] 0)).alloc (.cells #[.map (some (w.heap.size + 3))] 212)
  have hb5 := (hb3.alloc hb3.size (.map #[] 0)).alloc (by rw [hz4]; have := hb3.size; omega) (.cells #[.map (some (w.heap.size + 3))] 212)
  have hGW : GatW w F (w.heap.size + 1) (w.heap.size + 4) (w.heap.size + 2) (w.heap.size + 3) _ (.slice none 0 0) [] := ⟨hb5, hF5, hC5, hA5, OwnS.nil _ _ _, hM5, by omega, by omega⟩
  have hcall := HEACH.out _ _ _ _ _ _ _ (by simp only [List.length_nil]; omega) hGW
  rw [List.nil_append] at hcall
  have HCALL := Lib.hid hcall
  simp only [gatF] at HCALL
  clear hA3 hb3 hB3 hF3 hM4 hM5 hC5 hA5 hF5 hb5 hGW hcall HEACH hz4
  go_upto_region 3 with fail
  generalize (w3.alloc (.map #[] 0)).alloc (.cells #[.map (some (w.heap.size + 3))] 212) = w5 at *
  obtain ⟨c0, c1, c2, c3, c4, c5, c6, c7, c8⟩ := hB5.cells9
  clear hB5
  go_wp2_with (go_at_call 175; refine HCALL.out.mono ?_; rintro e w6 ⟨rfl, ⟨v6, hg6⟩, hk6⟩; obtain ⟨a6, c6', rfl, _, _⟩ := hg6.own.form; have y1 := hg6.all.cell1)
  go_ret
  obtain ⟨a7, c7', e7, h7⟩ := hg6.own.strs (fun s hs => HS.out s ((mem_once _ s).1 hs))
  simp only [Value.slice.injEq] at e7
  obtain ⟨rfl, _, rfl⟩ := e7
  exact ⟨_, _, rfl, h7, hg6.below⟩
end Go.Proofs.YtkgnapojkijbgaaGreatDoor
/- The contract of gather's closure, whatever tells of a route. -/
namespace Go.Proofs.YtkgnapojkijbgaaGreatDoor
open Go.RowKit

set_option maxHeartbeats 6400000 in
set_option maxRecDepth 100000 in
theorem gat_step1 {w0 : World} {tB cB aB mB : Nat} (q : RtAt) (hq : q.own w0) (W : World) (v : Value) (L : List ByteArray) (hL : L.length + (recvT q.n).length ≤ 100000000) (hW : GatW w0 177 tB cB aB mB W v L) :
    Calls Tryz.prog 220 #[.agg (tCells q), .pointer (some ⟨tB, 0, none⟩), .pointer (some ⟨cB, 0, none⟩), .pointer (some ⟨aB, 0, none⟩)] W (GatP w0 177 tB cB aB mB W (L ++ recvT q.n)) := by
  obtain ⟨i1, hj, hy0, hy1, hy2⟩ := info_parts Tryz.infoS
  have hb := (Below.refl W.heap.size W).alloc (Nat.le_refl _) (.cells (tCells q) 27)
  have hB := Blk.new W 27 (tCells q)
  have hW1 := hW.call hb
  have hk1 := KeepR.of hb
  have ht := names1_any w0 q _ hq hW1.below
  have HQ := Lib.hid hq
  have HTT := Lib.hid ht
  have HK1 := Lib.hid hk1
  clear ht hk1 hb hW
  obtain ⟨n, ma, mc, ba, bc, ua, uc, ka, kc⟩ := q
  simp only [tCells] at *
  generalize recvT n = TT at *
  go_enter Tryz.func220, Tryz.ntmps220
  go_upto_region 1 with fail
  generalize W.alloc (.cells #[.string n.recv, .slice ma n.ms.length mc, .slice ba n.bys.length bc, .int .i64 n.wait, .int .i64 n.every, .int .i64 n.rep, .slice ua n.mute.length uc, .bool n.on, .slice ka n.kids.length kc] 27) = wx at *
  obtain ⟨c0, c1, c2, c3, c4, c5, c6, c7, c8⟩ := hB.cells9
  have g1 := hW1.tell.cell1
  go_upto_region 2 with (go_at_call 177; refine HTT.out.mono ?_; rintro e w2 ⟨a, c, rfl, hs2, ho2, hb2⟩)
  have hW2 := hW1.call hb2
  have HKP := Lib.hid (HK1.out.trans (KeepR.of hb2))
  clear hW1 g1 c0 c1 c2 c3 c4 c5 c6 c7 c8 hB HTT HK1 hb2 hq HQ
  obtain ⟨hs21, hs22, hs23, hs24⟩ := hs2
  by_cases hl0 : TT.length = 0
  · obtain rfl : TT = [] := List.eq_nil_of_length_eq_zero hl0
    rw [List.append_nil]
    have HW2 := Lib.hid hW2
    clear hW2 hs21 hs22 hs23 hs24 ho2 hl0 hL
    simp only [List.length_nil]
    go_wp2_with fail
    refine wp_loop_rounds 1 ?_
    rw [rounds_succ]
    go_wp2_with fail
    go_end0
    exact ⟨rfl, ⟨_, HW2.out⟩, HKP.out⟩
  · have hS : ∃ b off, a = some ⟨b, off, none⟩ ∧ b < w2.heap.size ∧ ∀ i (h : i < TT.length), w2.cell? ⟨b, off + i, none⟩ = some (.string TT[i]) := by
      rcases hs24 with h | h
      · exact absurd (by rw [h]; rfl) hl0
      · exact h
    obtain ⟨b, off, rfl, hbl, hcell⟩ := hS
    have hO : (b < w0.heap.size ∧ ∀ i (h : i < TT.length), w0.cell? ⟨b, off + i, none⟩ = some (.string TT[i])) ∨ TT.length = 1 := by
      rcases ho2 with ⟨_, _, _, h | ⟨b', off', e, h1, h2⟩⟩ | h
      · exact absurd (by rw [h]; rfl) hl0
      · simp only [Option.some.injEq, Addr.mk.injEq] at e
        obtain ⟨rfl, rfl, _⟩ := e
        exact .inl ⟨h1, h2⟩
      · exact .inr h
    have HS := Lib.hid hs23
    have HO := Lib.hid hO
    have HC := Lib.hid hcell
    clear hs23 hs24 ho2 hl0 hbl hO hcell
    go_wp2_with fail
    go_loopg [11, 6] TT.length (fun gg iv _ wr => ∃ (k : Nat) (vk : Value), k + gg = TT.length ∧ iv = .int .i64 (k : Int) ∧ GatW w0 177 tB cB aB mB wr vk (L ++ TT.take k) ∧ Hid (KeepR W wr) ∧ Hid (∀ h : k < TT.length, wr.cell? ⟨b, off + k, none⟩ = some (.string TT[k])))
    case atStart => exact ⟨0, _, by omega, rfl, by simpa using hW2, HKP, Lib.hid (fun h => HC.out 0 h)⟩
    case round =>
      obtain ⟨k, vk, hkg, rfl, hWk, HK, HCk⟩ := hrel
      cases gk with
      | zero =>
        obtain rfl : k = TT.length := by omega
        rw [List.take_length] at hWk
        have HWK := Lib.hid hWk
        clear hWk
        go_wp2_with fail
        go_end0
        exact ⟨rfl, ⟨_, HWK.out⟩, HK.out⟩
      | succ gg =>
        have hkl : k < TT.length := by omega
        obtain ⟨s, hsk⟩ : ∃ s, TT[k] = s := ⟨_, rfl⟩
        have htk : TT.take (k + 1) = TT.take k ++ [s] := by rw [← hsk, List.take_add_one, List.getElem?_eq_getElem hkl]; rfl
        have hsm := HS.out _ (List.getElem_mem hkl)
        have hck := HCk.out hkl
        rw [hsk] at hsm hck
        have hml : (L ++ TT.take k).length ≤ 100000000 := by rw [List.length_append, List.length_take]; omega
        have HTK := Lib.hid htk
        clear hsk htk
        generalize hM : L ++ TT.take k = M at *
        have HM := Lib.hid hM
        clear hM
        have hlk := hWk.cnt.look s hsm
        have hN8 := cntL_len M s
        obtain ⟨N, hN⟩ : ∃ N, cntL M s = N := ⟨_, rfl⟩
        rw [hN] at hlk hN8
        have HN := Lib.hid hN
        have hN9 : N ≤ 100000000 := by omega
        have x1 := hWk.times.cell1
        have HWK := Lib.hid hWk
        have HSM := Lib.hid hsm
        have HML := Lib.hid hml
        have hcnt := hWk.cnt
        clear hWk hN hsm hml hN8 HCk
        go_upto_region 5 with (refine wpList_putC _ rfl _ _ _ rfl mB M s rfl hcnt (by have := HML.out; omega) rfl (by rw [HN.out]; rfl) HSM.out ?_; intro w4 hc4 hg4)
        obtain ⟨m1, m2, m3, m4, m5, m6⟩ := HWK.out.mid hc4 hg4
        have hlk4 := hc4.look s HSM.out
        rw [cntL_snoc, if_pos rfl, HN.out] at hlk4
        have y1 := m3.cell1
        have y2 := m4.cell1
        have y3 := m4.frozen 0
        clear hlk x1 hck
        have hz4 := m1.size
        have hko : (onceL M).length ≤ 100000000 := Nat.le_trans (once_len M) HML.out
        have hnext : ∀ W', Below w0.heap.size w0 W' → ∀ h : k + 1 < TT.length, W'.cell? ⟨b, off + (k + 1), none⟩ = some (.string TT[k + 1]) := by
          intro W' hb' h
          rcases HO.out with ⟨h1, h2⟩ | h1
          · exact (hb'.cell (p := ⟨b, off + (k + 1), none⟩) h1).trans (h2 _ h)
          · omega
        have HNX := Lib.hid hnext
        have hMs : M ++ [s] = L ++ TT.take (k + 1) := by rw [HTK.out, ← HM.out, List.append_assoc]
        have HMS := Lib.hid hMs
        have HKR := Lib.hid (HK.out.trans m6)
        clear hnext hMs HTK
        by_cases hn0 : N = 0
        · subst hn0
          have hlk5 : (Instr.lookup 212 (.map (some mB)) (.string s) false).run Tryz.prog w4 = .ok (.int .i64 1) w4 := hlk4
          have HNEW := Lib.hid (fun (W2 : World) (v2 : Value) (ho : OwnS 9 W2 w0.heap.size v2 (onceL M ++ [s])) (hg2 : w4.grownBy W2 vk.ownBlock) => HWK.out.new HN.out hc4 hg4 ho hg2)
          obtain ⟨ka', kc', rfl, _, _⟩ := m5.form
          clear hlk4
          go_upto_region 6 with fail
          clear hlk5
          go_wp2_with (refine wpList_push w4 (by rfl) (.tmp 23) (.tmp 25) 24 (by rfl) w0.heap.size 9 i1 (.string ⟨#[]⟩) 16 Tryz.underlying24 hj hy0 hy1 hy2 rfl (.slice ka' (onceL M).length kc') (onceL M).length (strsV (onceL M)) (by rfl) m5 (.string s) (by rfl) rfl (by unfold maxLen; omega) (by omega) hz4 ?_; intro g' c' w5 ho5 hg5; have t4 := m4.push hg5 (m5.other m4 (by decide)); have z2 := t4.cell1; have z3 := t4.frozen 0)
          have hfin := HNEW.out w5 (.slice (some ⟨g', 0, none⟩) ((onceL M).length + 1) c') (by unfold OwnS; rw [List.length_append, ← strsV_push]; exact ho5) hg5
          have HFIN := Lib.hid hfin
          clear hfin ho5 hg5 t4 z2 z3 m1 m2 m3 m4 m5 m6
          go_roundg gg
          case measure => omega
          case rel => exact ⟨k + 1, _, by omega, by go_num, by rw [← HMS.out]; exact HFIN.out.1, Lib.hid (HK.out.trans HFIN.out.2), Lib.hid (HNX.out _ HFIN.out.1.below)⟩
        · have hne : ((((N : Nat) : Int) + 1) == 1) = false := by rw [beq_eq_false_iff_ne]; omega
          have hlk5 : (Instr.lookup 212 (.map (some mB)) (.string s) false).run Tryz.prog w4 = .ok (.int .i64 ((N : Int) + 1)) w4 := hlk4
          have HOLD := Lib.hid (HWK.out.old (by rw [HN.out]; exact hn0) hc4 hg4)
          clear hlk4
          go_wp2_with fail
          go_roundg gg
          case measure => omega
          case rel => exact ⟨k + 1, vk, by omega, by go_num, by rw [← HMS.out]; exact HOLD.out.1, HKR, Lib.hid (HNX.out _ HOLD.out.1.below)⟩
end Go.Proofs.YtkgnapojkijbgaaGreatDoor
/- The contract of gather's closure, whatever tells of a route. -/
namespace Go.Proofs.YtkgnapojkijbgaaGreatDoor
open Go.RowKit

set_option maxHeartbeats 6400000 in
set_option maxRecDepth 100000 in
theorem gat_step2 {w0 : World} {tB cB aB mB : Nat} (q : RtAt) (hq : q.own w0) (W : World) (v : Value) (L : List ByteArray) (hL : L.length + (muteT q.n).length ≤ 100000000) (hW : GatW w0 178 tB cB aB mB W v L) :
    Calls Tryz.prog 220 #[.agg (tCells q), .pointer (some ⟨tB, 0, none⟩), .pointer (some ⟨cB, 0, none⟩), .pointer (some ⟨aB, 0, none⟩)] W (GatP w0 178 tB cB aB mB W (L ++ muteT q.n)) := by
  obtain ⟨i1, hj, hy0, hy1, hy2⟩ := info_parts Tryz.infoS
  have hb := (Below.refl W.heap.size W).alloc (Nat.le_refl _) (.cells (tCells q) 27)
  have hB := Blk.new W 27 (tCells q)
  have hW1 := hW.call hb
  have hk1 := KeepR.of hb
  have ht := names2_any w0 q _ hq hW1.below
  have HQ := Lib.hid hq
  have HTT := Lib.hid ht
  have HK1 := Lib.hid hk1
  clear ht hk1 hb hW
  obtain ⟨n, ma, mc, ba, bc, ua, uc, ka, kc⟩ := q
  simp only [tCells] at *
  generalize muteT n = TT at *
  go_enter Tryz.func220, Tryz.ntmps220
  go_upto_region 1 with fail
  generalize W.alloc (.cells #[.string n.recv, .slice ma n.ms.length mc, .slice ba n.bys.length bc, .int .i64 n.wait, .int .i64 n.every, .int .i64 n.rep, .slice ua n.mute.length uc, .bool n.on, .slice ka n.kids.length kc] 27) = wx at *
  obtain ⟨c0, c1, c2, c3, c4, c5, c6, c7, c8⟩ := hB.cells9
  have g1 := hW1.tell.cell1
  go_upto_region 2 with (go_at_call 178; refine HTT.out.mono ?_; rintro e w2 ⟨a, c, rfl, hs2, ho2, hb2⟩)
  have hW2 := hW1.call hb2
  have HKP := Lib.hid (HK1.out.trans (KeepR.of hb2))
  clear hW1 g1 c0 c1 c2 c3 c4 c5 c6 c7 c8 hB HTT HK1 hb2 hq HQ
  obtain ⟨hs21, hs22, hs23, hs24⟩ := hs2
  by_cases hl0 : TT.length = 0
  · obtain rfl : TT = [] := List.eq_nil_of_length_eq_zero hl0
    rw [List.append_nil]
    have HW2 := Lib.hid hW2
    clear hW2 hs21 hs22 hs23 hs24 ho2 hl0 hL
    simp only [List.length_nil]
    go_wp2_with fail
    refine wp_loop_rounds 1 ?_
    rw [rounds_succ]
    go_wp2_with fail
    go_end0
    exact ⟨rfl, ⟨_, HW2.out⟩, HKP.out⟩
  · have hS : ∃ b off, a = some ⟨b, off, none⟩ ∧ b < w2.heap.size ∧ ∀ i (h : i < TT.length), w2.cell? ⟨b, off + i, none⟩ = some (.string TT[i]) := by
      rcases hs24 with h | h
      · exact absurd (by rw [h]; rfl) hl0
      · exact h
    obtain ⟨b, off, rfl, hbl, hcell⟩ := hS
    have hO : (b < w0.heap.size ∧ ∀ i (h : i < TT.length), w0.cell? ⟨b, off + i, none⟩ = some (.string TT[i])) ∨ TT.length = 1 := by
      rcases ho2 with ⟨_, _, _, h | ⟨b', off', e, h1, h2⟩⟩ | h
      · exact absurd (by rw [h]; rfl) hl0
      · simp only [Option.some.injEq, Addr.mk.injEq] at e
        obtain ⟨rfl, rfl, _⟩ := e
        exact .inl ⟨h1, h2⟩
      · exact .inr h
    have HS := Lib.hid hs23
    have HO := Lib.hid hO
    have HC := Lib.hid hcell
    clear hs23 hs24 ho2 hl0 hbl hO hcell
    go_wp2_with fail
    go_loopg [11, 6] TT.length (fun gg iv _ wr => ∃ (k : Nat) (vk : Value), k + gg = TT.length ∧ iv = .int .i64 (k : Int) ∧ GatW w0 178 tB cB aB mB wr vk (L ++ TT.take k) ∧ Hid (KeepR W wr) ∧ Hid (∀ h : k < TT.length, wr.cell? ⟨b, off + k, none⟩ = some (.string TT[k])))
    case atStart => exact ⟨0, _, by omega, rfl, by simpa using hW2, HKP, Lib.hid (fun h => HC.out 0 h)⟩
    case round =>
      obtain ⟨k, vk, hkg, rfl, hWk, HK, HCk⟩ := hrel
      cases gk with
      | zero =>
        obtain rfl : k = TT.length := by omega
        rw [List.take_length] at hWk
        have HWK := Lib.hid hWk
        clear hWk
        go_wp2_with fail
        go_end0
        exact ⟨rfl, ⟨_, HWK.out⟩, HK.out⟩
      | succ gg =>
        have hkl : k < TT.length := by omega
        obtain ⟨s, hsk⟩ : ∃ s, TT[k] = s := ⟨_, rfl⟩
        have htk : TT.take (k + 1) = TT.take k ++ [s] := by rw [← hsk, List.take_add_one, List.getElem?_eq_getElem hkl]; rfl
        have hsm := HS.out _ (List.getElem_mem hkl)
        have hck := HCk.out hkl
        rw [hsk] at hsm hck
        have hml : (L ++ TT.take k).length ≤ 100000000 := by rw [List.length_append, List.length_take]; omega
        have HTK := Lib.hid htk
        clear hsk htk
        generalize hM : L ++ TT.take k = M at *
        have HM := Lib.hid hM
        clear hM
        have hlk := hWk.cnt.look s hsm
        have hN8 := cntL_len M s
        obtain ⟨N, hN⟩ : ∃ N, cntL M s = N := ⟨_, rfl⟩
        rw [hN] at hlk hN8
        have HN := Lib.hid hN
        have hN9 : N ≤ 100000000 := by omega
        have x1 := hWk.times.cell1
        have HWK := Lib.hid hWk
        have HSM := Lib.hid hsm
        have HML := Lib.hid hml
        have hcnt := hWk.cnt
        clear hWk hN hsm hml hN8 HCk
        go_upto_region 5 with (refine wpList_putC _ rfl _ _ _ rfl mB M s rfl hcnt (by have := HML.out; omega) rfl (by rw [HN.out]; rfl) HSM.out ?_; intro w4 hc4 hg4)
        obtain ⟨m1, m2, m3, m4, m5, m6⟩ := HWK.out.mid hc4 hg4
        have hlk4 := hc4.look s HSM.out
        rw [cntL_snoc, if_pos rfl, HN.out] at hlk4
        have y1 := m3.cell1
        have y2 := m4.cell1
        have y3 := m4.frozen 0
        clear hlk x1 hck
        have hz4 := m1.size
        have hko : (onceL M).length ≤ 100000000 := Nat.le_trans (once_len M) HML.out
        have hnext : ∀ W', Below w0.heap.size w0 W' → ∀ h : k + 1 < TT.length, W'.cell? ⟨b, off + (k + 1), none⟩ = some (.string TT[k + 1]) := by
          intro W' hb' h
          rcases HO.out with ⟨h1, h2⟩ | h1
          · exact (hb'.cell (p := ⟨b, off + (k + 1), none⟩) h1).trans (h2 _ h)
          · omega
        have HNX := Lib.hid hnext
        have hMs : M ++ [s] = L ++ TT.take (k + 1) := by rw [HTK.out, ← HM.out, List.append_assoc]
        have HMS := Lib.hid hMs
        have HKR := Lib.hid (HK.out.trans m6)
        clear hnext hMs HTK
        by_cases hn0 : N = 0
        · subst hn0
          have hlk5 : (Instr.lookup 212 (.map (some mB)) (.string s) false).run Tryz.prog w4 = .ok (.int .i64 1) w4 := hlk4
          have HNEW := Lib.hid (fun (W2 : World) (v2 : Value) (ho : OwnS 9 W2 w0.heap.size v2 (onceL M ++ [s])) (hg2 : w4.grownBy W2 vk.ownBlock) => HWK.out.new HN.out hc4 hg4 ho hg2)
          obtain ⟨ka', kc', rfl, _, _⟩ := m5.form
          clear hlk4
          go_upto_region 6 with fail
          clear hlk5
          go_wp2_with (refine wpList_push w4 (by rfl) (.tmp 23) (.tmp 25) 24 (by rfl) w0.heap.size 9 i1 (.string ⟨#[]⟩) 16 Tryz.underlying24 hj hy0 hy1 hy2 rfl (.slice ka' (onceL M).length kc') (onceL M).length (strsV (onceL M)) (by rfl) m5 (.string s) (by rfl) rfl (by unfold maxLen; omega) (by omega) hz4 ?_; intro g' c' w5 ho5 hg5; have t4 := m4.push hg5 (m5.other m4 (by decide)); have z2 := t4.cell1; have z3 := t4.frozen 0)
          have hfin := HNEW.out w5 (.slice (some ⟨g', 0, none⟩) ((onceL M).length + 1) c') (by unfold OwnS; rw [List.length_append, ← strsV_push]; exact ho5) hg5
          have HFIN := Lib.hid hfin
          clear hfin ho5 hg5 t4 z2 z3 m1 m2 m3 m4 m5 m6
          go_roundg gg
          case measure => omega
          case rel => exact ⟨k + 1, _, by omega, by go_num, by rw [← HMS.out]; exact HFIN.out.1, Lib.hid (HK.out.trans HFIN.out.2), Lib.hid (HNX.out _ HFIN.out.1.below)⟩
        · have hne : ((((N : Nat) : Int) + 1) == 1) = false := by rw [beq_eq_false_iff_ne]; omega
          have hlk5 : (Instr.lookup 212 (.map (some mB)) (.string s) false).run Tryz.prog w4 = .ok (.int .i64 ((N : Int) + 1)) w4 := hlk4
          have HOLD := Lib.hid (HWK.out.old (by rw [HN.out]; exact hn0) hc4 hg4)
          clear hlk4
          go_wp2_with fail
          go_roundg gg
          case measure => omega
          case rel => exact ⟨k + 1, vk, by omega, by go_num, by rw [← HMS.out]; exact HOLD.out.1, HKR, Lib.hid (HNX.out _ HOLD.out.1.below)⟩
end Go.Proofs.YtkgnapojkijbgaaGreatDoor
/- The contract of routes.Names. -/
namespace Go.Proofs.YtkgnapojkijbgaaGreatDoor
open Go.RowKit

def NamesP (X Y : List ByteArray) (w : World) (e : Ending) (w' : World) : Prop :=
  ∃ a c b d, e = .returned (.tuple #[.slice a X.length c, .slice b Y.length d]) ∧ HasStrs w' a c X ∧ HasStrs w' b d Y ∧ Below w.heap.size w w'
theorem gatAll1 (w0 : World) (tB cB aB mB : Nat) : GatAll w0 177 tB cB aB mB recvT := fun q W v L h hL hW => gat_step1 q h W v L hL hW
theorem gatAll2 (w0 : World) (tB cB aB mB : Nat) : GatAll w0 178 tB cB aB mB muteT := fun q W v L h hL hW => gat_step2 q h W v L hL hW
set_option maxHeartbeats 6400000 in
set_option maxRecDepth 100000 in
theorem routesNames_any (w : World) (q : RtAt) (h : q.ok w) (hc : q.n.count ≤ 60) :
    Calls Tryz.prog 119 #[.agg (tCells q)] w (NamesP (onceL (tellL recvT q.n.all)) (onceL (tellL muteT q.n.all)) w) := by
  have hb := (Below.refl w.heap.size w).alloc (Nat.le_refl _) (.cells (tCells q) 27)
  have hB := Blk.new w 27 (tCells q)
  have hG1 : ∀ W, Below w.heap.size w W → Calls Tryz.prog 179 #[.agg (tCells q), .func (.func 177) #[] #[]] W (RowP (onceL (tellL recvT q.n.all)) W) := fun W hW => gather_any 177 recvT W (gatAll1 W) (recv_ok W) q (h.call hW) hc
  have hG2 : ∀ W, Below w.heap.size w W → Calls Tryz.prog 179 #[.agg (tCells q), .func (.func 178) #[] #[]] W (RowP (onceL (tellL muteT q.n.all)) W) := fun W hW => gather_any 178 muteT W (gatAll2 W) (mute_ok W) q (h.call hW) hc
  have HG1 := Lib.hid hG1
  have HG2 := Lib.hid hG2
  have HB := Lib.hid hb
  clear hG1 hG2 hb hc h
  generalize onceL (tellL recvT q.n.all) = X at *
  generalize onceL (tellL muteT q.n.all) = Y at *
  obtain ⟨n, ma, mc, ba, bc, ua, uc, ka, kc⟩ := q
  simp only [tCells] at *
  go_enter Tryz.func119, Tryz.ntmps119
  go_upto_region 3 with fail
  generalize w.alloc (.cells #[.string n.recv, .slice ma n.ms.length mc, .slice ba n.bys.length bc, .int .i64 n.wait, .int .i64 n.every, .int .i64 n.rep, .slice ua n.mute.length uc, .bool n.on, .slice ka n.kids.length kc] 27) = w1 at *
  obtain ⟨c0, c1, c2, c3, c4, c5, c6, c7, c8⟩ := hB.cells9
  have BD : Below w1.heap.size w1 w1.drew := below_drewN (Below.refl _ _) 1
  go_region_with (first
    | (go_at_call 179; (with_reducible refine (HG1.out w1.drew (bthen HB.out BD)).mono ?_); rintro e w3 ⟨a1, x1, rfl, hs1, hb1⟩; have hBx := hB.call (bthen BD hb1); obtain ⟨d0, d1, d2, d3, d4, d5, d6, d7, d8⟩ := hBx.cells9)
    | (go_at_call 179; (with_reducible refine (HG2.out w1.drew (bthen HB.out BD)).mono ?_); rintro e w4 ⟨a2, x2, rfl, hs2, hb2⟩; have hBy := hB.call (bthen BD hb2); obtain ⟨e0, e1, e2, e3, e4, e5, e6, e7, e8⟩ := hBy.cells9)
    | (go_at_call 179; (with_reducible refine (HG1.out w4 (bthen HB.out (bthen BD hb2))).mono ?_); rintro e w3 ⟨a1, x1, rfl, hs1, hb1⟩; have hBx := hB.call (bthen BD (bthen hb2 hb1)); obtain ⟨d0, d1, d2, d3, d4, d5, d6, d7, d8⟩ := hBx.cells9)
    | (go_at_call 179; (with_reducible refine (HG2.out w3 (bthen HB.out (bthen BD hb1))).mono ?_); rintro e w4 ⟨a2, x2, rfl, hs2, hb2⟩; have hBy := hB.call (bthen BD (bthen hb1 hb2)); obtain ⟨e0, e1, e2, e3, e4, e5, e6, e7, e8⟩ := hBy.cells9))
  all_goals
    go_wp2_with fail
    go_ret2
    refine ⟨_, _, _, _, rfl, ?_, ?_, ?_⟩
    · first | exact hs1 | exact hs1.call hb2
    · first | exact hs2 | exact hs2.call hb1
    · first | exact bthen HB.out (bthen BD (bthen hb1 hb2)) | exact bthen HB.out (bthen BD (bthen hb2 hb1))
end Go.Proofs.YtkgnapojkijbgaaGreatDoor
/- The contract of routes.Count. -/
namespace Go.Proofs.YtkgnapojkijbgaaGreatDoor
open Go.RowKit

/-- the closure's cell holds a count -/
structure CouW (w0 : World) (nB : Nat) (W : World) (m : Nat) : Prop where
  below : Below w0.heap.size w0 W
  cell : Blk W nB 3 #[.int .i64 (m : Int)]
  young : w0.heap.size ≤ nB
theorem CouW.call {w0 W W1 : World} {nB m : Nat} (h : CouW w0 nB W m) (hb : Below W.heap.size W W1) : CouW w0 nB W1 m := ⟨h.below.trans (hb.mono h.below.size), h.cell.call hb, h.young⟩
def KeepN (w w' : World) : Prop := w.heap.size ≤ w'.heap.size ∧ ∀ g t cs, t ≠ 3 → Blk w g t cs → Blk w' g t cs
theorem KeepN.trans {w w1 w2 : World} (h : KeepN w w1) (k : KeepN w1 w2) : KeepN w w2 := ⟨Nat.le_trans h.1 k.1, fun g t cs h1 hb => k.2 g t cs h1 (h.2 g t cs h1 hb)⟩
theorem KeepN.of {w w' : World} (h : Below w.heap.size w w') : KeepN w w' := ⟨h.size, fun _ _ _ _ hb => hb.call h⟩
theorem CouW.set {w0 W : World} {nB m : Nat} (h : CouW w0 nB W m) (k : Nat) : CouW w0 nB (W.setCell ⟨nB, 0, none⟩ (.int .i64 (k : Int))) k ∧ KeepN W (W.setCell ⟨nB, 0, none⟩ (.int .i64 (k : Int))) := by
  have gs := grown_setCell W nB 0 (.int .i64 (k : Int))
  refine ⟨⟨h.below.setCell (p := ⟨nB, 0, none⟩) h.young _, h.cell.set 0 _, h.young⟩, gs.size, fun g t cs ht hb => hb.setO _ _ (fun e => ?_)⟩
  have e : g = nB := e
  rw [e] at hb
  have := (show W.heap[nB]? = _ from hb).symm.trans (show W.heap[nB]? = _ from h.cell)
  simp at this
  exact ht this.2
def CouP (w0 : World) (nB : Nat) (W : World) (m : Nat) (e : Ending) (W' : World) : Prop := e = .returned (.tuple #[]) ∧ CouW w0 nB W' m ∧ KeepN W W'
set_option maxHeartbeats 1600000 in
set_option maxRecDepth 100000 in
theorem count1_any {w0 : World} {nB : Nat} (q : RtAt) (W : World) (m : Nat) (hm : m ≤ 1000000) (h : CouW w0 nB W m) :
    Calls Tryz.prog 176 #[.agg (tCells q), .pointer (some ⟨nB, 0, none⟩)] W (CouP w0 nB W (m + 1)) := by
  have hb := (Below.refl W.heap.size W).alloc (Nat.le_refl _) (.cells (tCells q) 27)
  have h1 := h.call hb
  have x1 := h1.cell.cell1
  have x2 := h1.cell.frozen 0
  have HF := Lib.hid (h1.set (m + 1))
  have HK := Lib.hid (KeepN.of hb)
  clear hb h h1
  obtain ⟨n, ma, mc, ba, bc, ua, uc, ka, kc⟩ := q
  simp only [tCells] at *
  go_enter Tryz.func176, Tryz.ntmps176
  go_upto_region 1 with fail
  generalize W.alloc (.cells #[.string n.recv, .slice ma n.ms.length mc, .slice ba n.bys.length bc, .int .i64 n.wait, .int .i64 n.every, .int .i64 n.rep, .slice ua n.mute.length uc, .bool n.on, .slice ka n.kids.length kc] 27) = wx at *
  go_wp2_with fail
  go_end0
  exact ⟨rfl, HF.out.1, HK.out.trans HF.out.2⟩
abbrev couF (nB : Nat) : Value := .func (.func 176) #[] #[.pointer (some ⟨nB, 0, none⟩)]
abbrev visN (dB vB : Nat) : Value := .func (.func 219) #[] #[.pointer (some ⟨dB, 0, none⟩), .pointer (some ⟨vB, 0, none⟩)]
structure EacN (w0 : World) (nB dB vB : Nat) (W : World) (m : Nat) : Prop where
  cou : CouW w0 nB W m
  doC : Blk W dB 183 #[couF nB]
  vis : Blk W vB 183 #[visN dB vB]
theorem EacN.call {w0 W W1 : World} {nB dB vB m : Nat} (h : EacN w0 nB dB vB W m) (hb : Below W.heap.size W W1) : EacN w0 nB dB vB W1 m := ⟨h.cou.call hb, h.doC.call hb, h.vis.call hb⟩
theorem EacN.keep {w0 W W1 : World} {nB dB vB m m' : Nat} (h : EacN w0 nB dB vB W m) (hg : CouW w0 nB W1 m') (hk : KeepN W W1) : EacN w0 nB dB vB W1 m' :=
  ⟨hg, hk.2 _ _ _ (by decide) h.doC, hk.2 _ _ _ (by decide) h.vis⟩
def EacAll (w0 : World) (nB dB vB : Nat) (q : RtAt) : Prop :=
  ∀ (W : World) (m : Nat), m + q.n.count ≤ 1000000 → EacN w0 nB dB vB W m →
    Calls Tryz.prog 219 #[.agg (tCells q), .pointer (some ⟨dB, 0, none⟩), .pointer (some ⟨vB, 0, none⟩)] W (CouP w0 nB W (m + q.n.count))
theorem countRs_le (xs : List Rt) (k : Nat) : countRs (xs.take k) ≤ countRs xs := by
  induction xs generalizing k with
  | nil => simp
  | cons x xs ih =>
    cases k with
    | zero => simp [countRs]
    | succ k =>
      have := ih k
      simp only [List.take_succ_cons, countRs]
      omega
set_option maxHeartbeats 6400000 in
set_option maxRecDepth 100000 in
theorem eac_step {w0 : World} {nB dB vB : Nat} (q : RtAt) (hkc : q.n.kids.length ≤ q.kc ∧ q.kc ≤ maxLen)
    (HK : q.n.kids = [] ∨ ∃ b off, q.ka = some ⟨b, off, none⟩ ∧ b < w0.heap.size ∧ ∀ i (h : i < q.n.kids.length), ∃ r : RtAt, r.n = q.n.kids[i] ∧ r.lies w0 b (off + i * 9) ∧ r.ok w0 ∧ EacAll w0 nB dB vB r) : EacAll w0 nB dB vB q := by
  intro W m hL hW
  have hb := (Below.refl W.heap.size W).alloc (Nat.le_refl _) (.cells (tCells q) 27)
  have hB := Blk.new W 27 (tCells q)
  have hW1 := hW.call hb
  have hce := q.n.count_eq
  have hg := count1_any q _ m (by omega) hW1.cou
  have HGG := Lib.hid hg
  have HCE := Lib.hid hce
  have HK1 := Lib.hid (KeepN.of hb)
  have HKK := Lib.hid HK
  have HLB := Lib.hid hL
  clear hg hb HK hW hL hce
  obtain ⟨n, ma, mc, ba, bc, ua, uc, ka, kc⟩ := q
  simp only [tCells] at *
  unfold maxLen at hkc
  go_enter Tryz.func219, Tryz.ntmps219
  go_upto_region 1 with fail
  generalize W.alloc (.cells #[.string n.recv, .slice ma n.ms.length mc, .slice ba n.bys.length bc, .int .i64 n.wait, .int .i64 n.every, .int .i64 n.rep, .slice ua n.mute.length uc, .bool n.on, .slice ka n.kids.length kc] 27) = wx at *
  obtain ⟨c0, c1, c2, c3, c4, c5, c6, c7, c8⟩ := hB.cells9
  have x1 := hW1.doC.cell1
  simp only [couF] at x1
  go_upto_region 2 with (go_at_call 176; refine HGG.out.mono ?_; rintro e w2 ⟨rfl, hg2, hk2⟩)
  have hW2 := hW1.keep hg2 hk2
  have hB2 := hk2.2 _ _ _ (by decide) hB
  have HK2 := Lib.hid (HK1.out.trans hk2)
  clear hg2 hk2 hW1 x1 c0 c1 c2 c3 c4 c5 c6 c7 c8 hB HGG HK1
  obtain ⟨-, -, -, -, -, -, -, -, c8⟩ := hB2.cells9
  clear hB2
  by_cases hl0 : n.kids.length = 0
  · have hk0 : n.kids = [] := List.eq_nil_of_length_eq_zero hl0
    have hfin : m + 1 = m + n.count := by have := HCE.out; rw [hk0] at this; simp only [countRs] at this; omega
    have HF := Lib.hid hfin
    have HW2 := Lib.hid hW2
    rw [hl0] at c8
    clear hk0 hfin hW2 hl0 hkc
    go_wp2_with fail
    refine wp_loop_rounds 1 ?_
    rw [rounds_succ]
    go_wp2_with fail
    go_end0
    exact ⟨rfl, by rw [← HF.out]; exact HW2.out.cou, HK2.out⟩
  · obtain ⟨kb, kof, rfl, _, hkk⟩ : ∃ b off, ka = some ⟨b, off, none⟩ ∧ b < w0.heap.size ∧ ∀ i (h : i < n.kids.length), ∃ r : RtAt, r.n = n.kids[i] ∧ r.lies w0 b (off + i * 9) ∧ r.ok w0 ∧ EacAll w0 nB dB vB r := by
      rcases HKK.out with h | h
      · exact absurd (by rw [h]; rfl) hl0
      · exact h
    have HKI := Lib.hid hkk
    clear hkk HKK hl0
    go_wp2_with fail
    clear c8
    go_loopg [12, 5] n.kids.length (fun gg iv _ wr => ∃ (k : Nat), k + gg = n.kids.length ∧ iv = .int .i64 (k : Int) ∧ EacN w0 nB dB vB wr (m + 1 + countRs (n.kids.take k)) ∧ Hid (KeepN W wr))
    case atStart => exact ⟨0, by omega, rfl, by simpa [countRs] using hW2, HK2⟩
    case round =>
      obtain ⟨k, hkg, rfl, hWk, HKk⟩ := hrel
      cases gk with
      | zero =>
        obtain rfl : k = n.kids.length := by omega
        have hfin : m + 1 + countRs (n.kids.take n.kids.length) = m + n.count := by rw [List.take_length]; have := HCE.out; omega
        rw [hfin] at hWk
        have HWK := Lib.hid hWk
        clear hWk hfin
        go_wp2_with fail
        go_end0
        exact ⟨rfl, HWK.out.cou, HKk.out⟩
      | succ gg =>
        have hkl : k < n.kids.length := by omega
        obtain ⟨r, hrn, hrl, hro, hra⟩ := HKI.out k hkl
        obtain ⟨e0, e1, e2, e3, e4, e5, e6, e7, e8⟩ := hrl.call hWk.cou.below
        have hbn := (Below.refl wr.heap.size wr).alloc (Nat.le_refl _) (.cells (tCells r) 27)
        have hat := countRs_take n.kids k hkl
        rw [← hrn] at hat
        have hlt := countRs_le n.kids (k + 1)
        have hWn := hWk.call hbn
        have hcall := hra _ _ (by have := HLB.out; have := HCE.out; omega) hWn
        obtain ⟨f0, f1, f2, f3, f4, f5, f6, f7, f8⟩ := (Blk.new wr 27 (tCells r)).cells9
        have x2 := hWn.vis.cell1
        simp only [visN] at x2
        have hnx : m + 1 + countRs (n.kids.take k) + r.n.count = m + 1 + countRs (n.kids.take (k + 1)) := by omega
        rw [hnx] at hcall
        have HCALL := Lib.hid hcall
        have HKN := Lib.hid (HKk.out.trans (KeepN.of hbn))
        have HWN := Lib.hid hWn
        clear hrn hrl hro hra hbn hat hlt hWn hcall hnx hWk HKk
        obtain ⟨r, ma', mc', ba', bc', ua', uc', ka', kc'⟩ := r
        simp only [tCells] at *
        go_wp2_with (go_at_call 219; refine HCALL.out.mono ?_; rintro e w3 ⟨rfl, hg3, hk3⟩)
        go_roundg gg
        case measure => omega
        case rel => exact ⟨k + 1, by omega, by go_num, HWN.out.keep hg3 hk3, Lib.hid (HKN.out.trans hk3)⟩
theorem eac_any {w0 : World} {nB dB vB : Nat} {q : RtAt} (h : q.ok w0) : EacAll w0 nB dB vB q := by
  induction h with
  | flat q h0 h1 => exact eac_step q h0.2 (.inl h1)
  | row q b off R h0 h1 h2 h3 h4 h5 ih => exact eac_step q h0.2 (.inr ⟨b, off, h1, h2, fun i hi => ⟨R i, h3 i hi, h4 i hi, h5 i hi, ih i hi⟩⟩)
set_option maxHeartbeats 6400000 in
set_option maxRecDepth 100000 in
theorem eachN_any {w0 : World} {nB : Nat} {q : RtAt} (h : q.ok w0) (W : World) (m : Nat) (hL : m + q.n.count ≤ 1000000) (hW : CouW w0 nB W m) :
    Calls Tryz.prog 175 #[.agg (tCells q), couF nB] W (CouP w0 nB W (m + q.n.count)) := by
  have hb1 := (Below.refl W.heap.size W).alloc (Nat.le_refl _) (.cells (tCells q) 27)
  have hz1 : (W.alloc (.cells (tCells q) 27)).heap.size = W.heap.size + 1 := by simp
  have hb2 := hb1.alloc (by omega) (.cells #[couF nB] 183)
  have hz2 : ((W.alloc (.cells (tCells q) 27)).alloc (.cells #[couF nB] 183)).heap.size = W.heap.size + 2 := by simp
  have hb3 := hb2.alloc (by omega) (.cells #[visN (W.heap.size + 1) (W.heap.size + 2)] 183)
  have hB := ((Blk.new W 27 (tCells q)).alloc (.cells #[couF nB] 183)).alloc (.cells #[visN (W.heap.size + 1) (W.heap.size + 2)] 183)
  have hD := (Blk.new (W.alloc (.cells (tCells q) 27)) 183 #[couF nB]).alloc (.cells #[visN (W.heap.size + 1) (W.heap.size + 2)] 183)
  rw [hz1] at hD
  have hV := Blk.new ((W.alloc (.cells (tCells q) 27)).alloc (.cells #[couF nB] 183)) 183 #[visN (W.heap.size + 1) (W.heap.size + 2)]
  rw [hz2] at hV
  have hcall := eac_any h _ m hL ⟨hW.call hb3, hD, hV⟩
  have hv1 := hV.cell1
  have HK := Lib.hid (KeepN.of hb3)
  have HC := Lib.hid hcall
  clear hb1 hz1 hb2 hz2 hb3 hD hV hcall hW h hL
  obtain ⟨n, ma, mc, ba, bc, ua, uc, ka, kc⟩ := q
  simp only [tCells, couF, visN] at *
  go_enter Tryz.func175, Tryz.ntmps175
  go_upto_region 3 with fail
  generalize ((W.alloc (.cells #[.string n.recv, .slice ma n.ms.length mc, .slice ba n.bys.length bc, .int .i64 n.wait, .int .i64 n.every, .int .i64 n.rep, .slice ua n.mute.length uc, .bool n.on, .slice ka n.kids.length kc] 27)).alloc (.cells #[.func (.func 176) #[] #[.pointer (some ⟨nB, 0, none⟩)]] 183)).alloc (.cells #[.func (.func 219) #[] #[.pointer (some ⟨W.heap.size + 1, 0, none⟩), .pointer (some ⟨W.heap.size + 2, 0, none⟩)]] 183) = wx at *
  obtain ⟨c0, c1, c2, c3, c4, c5, c6, c7, c8⟩ := hB.cells9
  go_wp2_with (go_at_call 219; refine HC.out.mono ?_; rintro e w2 ⟨rfl, hg2, hk2⟩)
  go_end0
  exact ⟨rfl, hg2, HK.out.trans hk2⟩
set_option maxHeartbeats 6400000 in
set_option maxRecDepth 100000 in
theorem count_any (w : World) (q : RtAt) (h : q.ok w) (hc : q.n.count ≤ 100000) :
    Calls Tryz.prog 118 #[.agg (tCells q)] w (fun e w' => e = .returned (.int .i64 (q.n.count : Int)) ∧ Below w.heap.size w w') := by
  have hb1 := (Below.refl w.heap.size w).alloc (Nat.le_refl _) (.cells (tCells q) 27)
  have hz1 : (w.alloc (.cells (tCells q) 27)).heap.size = w.heap.size + 1 := by simp
  have hb2 := hb1.alloc (by omega) (.cells #[.int .i64 0] 3)
  have hB := (Blk.new w 27 (tCells q)).alloc (.cells #[.int .i64 0] 3)
  have hN := Blk.new (w.alloc (.cells (tCells q) 27)) 3 #[.int .i64 0]
  rw [hz1] at hN
  have hcall := eachN_any h _ 0 (by omega) (nB := w.heap.size + 1) ⟨hb2, hN, by omega⟩
  rw [Nat.zero_add] at hcall
  have HC := Lib.hid hcall
  clear hb1 hz1 hb2 hN hcall h hc
  obtain ⟨n, ma, mc, ba, bc, ua, uc, ka, kc⟩ := q
  simp only [tCells, couF] at *
  go_enter Tryz.func118, Tryz.ntmps118
  go_upto_region 2 with fail
  generalize (w.alloc (.cells #[.string n.recv, .slice ma n.ms.length mc, .slice ba n.bys.length bc, .int .i64 n.wait, .int .i64 n.every, .int .i64 n.rep, .slice ua n.mute.length uc, .bool n.on, .slice ka n.kids.length kc] 27)).alloc (.cells #[.int .i64 0] 3) = w2 at *
  obtain ⟨c0, c1, c2, c3, c4, c5, c6, c7, c8⟩ := hB.cells9
  go_wp2_with (go_at_call 175; refine HC.out.mono ?_; rintro e w3 ⟨rfl, hg3, hk3⟩; have y1 := hg3.cell.cell1)
  go_ret
  exact ⟨rfl, hg3.below⟩
end Go.Proofs.YtkgnapojkijbgaaGreatDoor
/- What is told of two rows of texts that are compared. -/
namespace Go.Proofs.YtkgnapojkijbgaaGreatDoor
open Go.RowKit

def SamePost (B : Bool) (w : World) (e : Ending) (w' : World) : Prop := e = .returned (.bool B) ∧ Below w.heap.size w w'
end Go.Proofs.YtkgnapojkijbgaaGreatDoor
/- The contract of the document's own Same of layer 1. -/
namespace Go.Proofs.YtkgnapojkijbgaaGreatDoor
open Go.RowKit
open Go.WideShapes (bytes_inj)

set_option maxHeartbeats 800000 in
set_option maxRecDepth 100000 in
theorem same_some (b off c b' off' c' : Nat) (ss ts : List ByteArray) (w : World) (hlc : ss.length ≤ c) (hcm : c ≤ maxLen) (hlc' : ts.length ≤ c') (_hcm' : c' ≤ maxLen) (hb : b < w.heap.size) (hb' : b' < w.heap.size)
    (hcell : ∀ i (h : i < ss.length), w.cell? ⟨b, off + i, none⟩ = some (.string ss[i])) (hcell' : ∀ i (h : i < ts.length), w.cell? ⟨b', off' + i, none⟩ = some (.string ts[i])) (hl : ss.length = ts.length) :
    Calls Tryz.prog 70 #[.slice (some ⟨b, off, none⟩) ss.length c, .slice (some ⟨b', off', none⟩) ts.length c'] w (SamePost (decide (ss = ts)) w) := by
  unfold maxLen at hcm
  have HC := Lib.hid hcell
  have HC' := Lib.hid hcell'
  have hlen : ((ss.length : Int) != (ts.length : Int)) = false := by rw [hl]; simp
  have hlb : ts.length ≤ ss.length := by omega
  have hlb' : ss.length ≤ ts.length := by omega
  have HL := Lib.hid hl
  clear hcell hcell' hl
  go_enter Tryz.func70, Tryz.ntmps70
  go_wp2
  go_loopw [13] (fun i wr => ∃ k : Nat, k ≤ ss.length ∧ i = .int .i64 k ∧ ss.take k = ts.take k ∧ Below w.heap.size w wr) (fun i _ => ss.length - (intOf i).toNat)
  case atStart => exact ⟨0, Nat.zero_le _, rfl, rfl, Below.refl _ _⟩
  case round =>
    obtain ⟨k, hk, rfl, he, hbl⟩ := hrel
    have HE := Lib.hid he
    clear he
    by_cases hkl : k < ss.length
    · have hc := (hbl.cell (p := ⟨b, off + k, none⟩) hb).trans (HC.out k hkl)
      have hc' := (hbl.cell (p := ⟨b', off' + k, none⟩) hb').trans (HC'.out k (by omega))
      by_cases hq : ss[k] = ts[k]'(by omega)
      · have hq2 : (ss[k].toList == (ts[k]'(by omega)).toList) = true := by rw [hq]; simp
        have htk : ss.take (k + 1) = ts.take (k + 1) := by
          rw [List.take_succ_eq_append_getElem hkl, List.take_succ_eq_append_getElem (by omega), HE.out, hq]
        have HT := Lib.hid htk
        clear htk hq
        go_wp2_with fail
        go_quiet (fail)
        go_wp2
        go_roundw
        case rel => exact ⟨k + 1, by omega, by go_num, HT.out, below_drewN hbl _⟩
        case measure => simp [intOf]; omega
      · have hq2 : (ss[k].toList == (ts[k]'(by omega)).toList) = false := by
          rw [beq_eq_false_iff_ne, ne_eq, ByteArray.toList_eq, ByteArray.toList_eq]
          intro e
          exact hq (bytes_inj e)
        have hf : decide (ss = ts) = false := by
          rw [decide_eq_false_iff_not]
          intro e
          subst e
          exact hq rfl
        have HF := Lib.hid hf
        clear hq hf
        go_wp2_with fail
        go_quiet (fail)
        go_wp2
        go_ret
        rw [HF.out]
        exact ⟨rfl, below_drewN hbl _⟩
    · have ht : decide (ss = ts) = true := by
        have := HE.out
        rw [List.take_of_length_le (by omega), List.take_of_length_le (by omega)] at this
        rw [decide_eq_true_iff]; exact this
      go_wp2
      go_ret
      rw [ht]
      exact ⟨rfl, hbl⟩

theorem same_any (a a' : Option Addr) (c c' : Nat) (ss ts : List ByteArray) (w : World) (h : HasStrs w a c ss) (h' : HasStrs w a' c' ts) :
    Calls Tryz.prog 70 #[.slice a ss.length c, .slice a' ts.length c'] w (SamePost (decide (ss = ts)) w) := by
  obtain ⟨h1, h2, h3, h4⟩ := h
  obtain ⟨g1, g2, g3, g4⟩ := h'
  unfold maxLen at h2 g2
  by_cases hl : ss.length = ts.length
  · rcases h4 with rfl | ⟨b, off, rfl, hb, hc⟩
    · obtain rfl : ts = [] := List.eq_nil_of_length_eq_zero hl.symm
      go_enter Tryz.func70, Tryz.ntmps70
      go_wp2
      refine wp_loop_rounds 1 ?_
      rw [rounds_succ]
      go_wp2
      go_ret
      exact ⟨rfl, Below.refl _ _⟩
    · rcases g4 with rfl | ⟨b', off', rfl, hb', hc'⟩
      · obtain rfl : ss = [] := List.eq_nil_of_length_eq_zero hl
        go_enter Tryz.func70, Tryz.ntmps70
        go_wp2
        refine wp_loop_rounds 1 ?_
        rw [rounds_succ]
        go_wp2
        go_ret
        exact ⟨rfl, Below.refl _ _⟩
      · exact same_some b off c b' off' c' ss ts w h1 (by unfold maxLen; omega) g1 (by unfold maxLen; omega) hb hb' hc hc' hl
  · have hlen : ((ss.length : Int) != (ts.length : Int)) = true := by rw [bne_iff_ne]; omega
    have hf : decide (ss = ts) = false := by
      rw [decide_eq_false_iff_not]
      intro e
      exact hl (by rw [e])
    rw [hf]
    clear hl hf h3 h4 g3 g4
    go_enter Tryz.func70, Tryz.ntmps70
    go_wp2
    go_ret
    exact ⟨rfl, Below.refl _ _⟩
end Go.Proofs.YtkgnapojkijbgaaGreatDoor
/- The contract of the document's own Like of layer 4. -/
namespace Go.Proofs.YtkgnapojkijbgaaGreatDoor
open Go.RowKit Go.Maps

theorem name_beq (a b : ByteArray) : (a.toList == b.toList) = decide (a = b) := toList_eq_iff a b

set_option maxHeartbeats 3200000 in
set_option maxRecDepth 100000 in
theorem rLike_any (v v' : Value) (m m' : Mat) (w : World) (h : HasMat w v m) (h' : HasMat w v' m') : Calls Tryz.prog 137 #[v, v'] w (BoolB (likeM m m') w) := by
  obtain ⟨a, c, rfl, hW, hs, hwf⟩ := h
  obtain ⟨a', c', rfl, hW', hs', hwf'⟩ := h'
  have HE := Lib.hid (fun W (hb : Below w.heap.size w W) => same_any a a' c c' m.words m'.words W (hW.call hb) (hW'.call hb))
  have hb1 := Blk.new w 109 #[.string m.name, .int .i64 m.how, .slice a m.words.length c]
  have hb2 := hb1.alloc (.cells #[.string m'.name, .int .i64 m'.how, .slice a' m'.words.length c'] 109)
  have hb3 := Blk.new (w.alloc (.cells #[.string m.name, .int .i64 m.how, .slice a m.words.length c] 109)) 109 #[.string m'.name, .int .i64 m'.how, .slice a' m'.words.length c']
  have hbl := ((Below.refl _ w).alloc (Nat.le_refl _) (.cells #[.string m.name, .int .i64 m.how, .slice a m.words.length c] 109)).alloc (by simp) (.cells #[.string m'.name, .int .i64 m'.how, .slice a' m'.words.length c'] 109)
  have e1 : (w.alloc (.cells #[.string m.name, .int .i64 m.how, .slice a m.words.length c] 109)).heap.size = w.heap.size + 1 := by simp
  rw [e1] at hb3
  obtain ⟨x0, x1, x2⟩ := hb2.cells3
  obtain ⟨y0, y1, y2⟩ := hb3.cells3
  have X0 := Lib.hid x0
  have X1 := Lib.hid x1
  have X2 := Lib.hid x2
  have Y0 := Lib.hid y0
  have Y1 := Lib.hid y1
  have Y2 := Lib.hid y2
  have HB := Lib.hid hbl
  have e : likeM m m' = (decide (m.name = m'.name) && (decide (m.how = m'.how) && decide (m.words = m'.words))) := by rw [likeM, Bool.and_assoc]
  rw [e]
  have hq := name_beq m.name m'.name
  obtain ⟨D, hD⟩ : ∃ D, decide (m.words = m'.words) = D := ⟨_, rfl⟩
  rw [hD]
  rw [hD] at HE
  clear hW hW' hs hs' hwf hwf' hb1 hb2 hb3 hbl e1 e x0 x1 x2 y0 y1 y2 hD
  have x0 := X0.out
  have x1 := X1.out
  have x2 := X2.out
  have y0 := Y0.out
  have y1 := Y1.out
  have y2 := Y2.out
  clear X0 X1 X2 Y0 Y1 Y2
  by_cases h1 : m.name = m'.name
  · rw [decide_eq_true h1] at hq
    rw [decide_eq_true h1, Bool.true_and]
    clear h1
    by_cases h2 : m.how = m'.how
    · have h3 : (m.how == m'.how) = true := beq_iff_eq.2 h2
      rw [decide_eq_true h2, Bool.true_and]
      clear h2
      go_enter Tryz.func137, Tryz.ntmps137
      go_wp2_with (go_at_call 70; refine (HE.out _ HB.out).mono ?_; rintro e w2 ⟨rfl, hb2⟩)
      go_ret
      exact ⟨rfl, bthen HB.out hb2⟩
    · have h3 : (m.how == m'.how) = false := beq_eq_false_iff_ne.2 h2
      rw [decide_eq_false h2, Bool.false_and]
      clear h2
      go_enter Tryz.func137, Tryz.ntmps137
      go_wp2_with (go_at_call 70; refine (HE.out _ HB.out).mono ?_; rintro e w2 ⟨rfl, hb2⟩)
      go_ret
      exact ⟨rfl, HB.out⟩
  · rw [decide_eq_false h1] at hq
    rw [decide_eq_false h1, Bool.false_and]
    clear h1
    go_enter Tryz.func137, Tryz.ntmps137
    go_wp2_with (go_at_call 70; refine (HE.out _ HB.out).mono ?_; rintro e w2 ⟨rfl, hb2⟩)
    go_ret
    exact ⟨rfl, HB.out⟩
end Go.Proofs.YtkgnapojkijbgaaGreatDoor
/- The contract of the library's Equal of rows of texts. -/
namespace Go.Proofs.YtkgnapojkijbgaaGreatDoor
open Go.RowKit
open Go.WideShapes (bytes_inj)

set_option maxHeartbeats 800000 in
set_option maxRecDepth 100000 in
theorem equal_some (b off c b' off' c' : Nat) (ss ts : List ByteArray) (w : World) (hlc : ss.length ≤ c) (hcm : c ≤ maxLen) (hlc' : ts.length ≤ c') (_hcm' : c' ≤ maxLen) (hb : b < w.heap.size) (hb' : b' < w.heap.size)
    (hcell : ∀ i (h : i < ss.length), w.cell? ⟨b, off + i, none⟩ = some (.string ss[i])) (hcell' : ∀ i (h : i < ts.length), w.cell? ⟨b', off' + i, none⟩ = some (.string ts[i])) (hl : ss.length = ts.length) :
    Calls Tryz.prog 76 #[.slice (some ⟨b, off, none⟩) ss.length c, .slice (some ⟨b', off', none⟩) ts.length c'] w (SamePost (decide (ss = ts)) w) := by
  unfold maxLen at hcm
  have HC := Lib.hid hcell
  have HC' := Lib.hid hcell'
  have hlen : ((ss.length : Int) != (ts.length : Int)) = false := by rw [hl]; simp
  have hlb : ts.length ≤ ss.length := by omega
  have hlb' : ss.length ≤ ts.length := by omega
  have HL := Lib.hid hl
  clear hcell hcell' hl
  go_enter Tryz.func76, Tryz.ntmps76
  go_wp2
  go_loopw [13] (fun i wr => ∃ k : Nat, k ≤ ss.length ∧ i = .int .i64 k ∧ ss.take k = ts.take k ∧ Below w.heap.size w wr) (fun i _ => ss.length - (intOf i).toNat)
  case atStart => exact ⟨0, Nat.zero_le _, rfl, rfl, Below.refl _ _⟩
  case round =>
    obtain ⟨k, hk, rfl, he, hbl⟩ := hrel
    have HE := Lib.hid he
    clear he
    by_cases hkl : k < ss.length
    · have hc := (hbl.cell (p := ⟨b, off + k, none⟩) hb).trans (HC.out k hkl)
      have hc' := (hbl.cell (p := ⟨b', off' + k, none⟩) hb').trans (HC'.out k (by omega))
      by_cases hq : ss[k] = ts[k]'(by omega)
      · have hq2 : (ss[k].toList == (ts[k]'(by omega)).toList) = true := by rw [hq]; simp
        have htk : ss.take (k + 1) = ts.take (k + 1) := by
          rw [List.take_succ_eq_append_getElem hkl, List.take_succ_eq_append_getElem (by omega), HE.out, hq]
        have HT := Lib.hid htk
        clear htk hq
        go_wp2_with fail
        go_quiet (fail)
        go_wp2
        go_roundw
        case rel => exact ⟨k + 1, by omega, by go_num, HT.out, below_drewN hbl _⟩
        case measure => simp [intOf]; omega
      · have hq2 : (ss[k].toList == (ts[k]'(by omega)).toList) = false := by
          rw [beq_eq_false_iff_ne, ne_eq, ByteArray.toList_eq, ByteArray.toList_eq]
          intro e
          exact hq (bytes_inj e)
        have hf : decide (ss = ts) = false := by
          rw [decide_eq_false_iff_not]
          intro e
          subst e
          exact hq rfl
        have HF := Lib.hid hf
        clear hq hf
        go_wp2_with fail
        go_quiet (fail)
        go_wp2
        go_ret
        rw [HF.out]
        exact ⟨rfl, below_drewN hbl _⟩
    · have ht : decide (ss = ts) = true := by
        have := HE.out
        rw [List.take_of_length_le (by omega), List.take_of_length_le (by omega)] at this
        rw [decide_eq_true_iff]; exact this
      go_wp2
      go_ret
      rw [ht]
      exact ⟨rfl, hbl⟩

theorem equal_any (a a' : Option Addr) (c c' : Nat) (ss ts : List ByteArray) (w : World) (h : HasStrs w a c ss) (h' : HasStrs w a' c' ts) :
    Calls Tryz.prog 76 #[.slice a ss.length c, .slice a' ts.length c'] w (SamePost (decide (ss = ts)) w) := by
  obtain ⟨h1, h2, h3, h4⟩ := h
  obtain ⟨g1, g2, g3, g4⟩ := h'
  unfold maxLen at h2 g2
  by_cases hl : ss.length = ts.length
  · rcases h4 with rfl | ⟨b, off, rfl, hb, hc⟩
    · obtain rfl : ts = [] := List.eq_nil_of_length_eq_zero hl.symm
      go_enter Tryz.func76, Tryz.ntmps76
      go_wp2
      refine wp_loop_rounds 1 ?_
      rw [rounds_succ]
      go_wp2
      go_ret
      exact ⟨rfl, Below.refl _ _⟩
    · rcases g4 with rfl | ⟨b', off', rfl, hb', hc'⟩
      · obtain rfl : ss = [] := List.eq_nil_of_length_eq_zero hl
        go_enter Tryz.func76, Tryz.ntmps76
        go_wp2
        refine wp_loop_rounds 1 ?_
        rw [rounds_succ]
        go_wp2
        go_ret
        exact ⟨rfl, Below.refl _ _⟩
      · exact equal_some b off c b' off' c' ss ts w h1 (by unfold maxLen; omega) g1 (by unfold maxLen; omega) hb hb' hc hc' hl
  · have hlen : ((ss.length : Int) != (ts.length : Int)) = true := by rw [bne_iff_ne]; omega
    have hf : decide (ss = ts) = false := by
      rw [decide_eq_false_iff_not]
      intro e
      exact hl (by rw [e])
    rw [hf]
    clear hl hf h3 h4 g3 g4
    go_enter Tryz.func76, Tryz.ntmps76
    go_wp2
    go_ret
    exact ⟨rfl, Below.refl _ _⟩
end Go.Proofs.YtkgnapojkijbgaaGreatDoor
/- The contracts of matcher.Like, and of the document's own Like, Word, Right, Holds of layer 4. -/
namespace Go.Proofs.YtkgnapojkijbgaaGreatDoor
open Go.RowKit Go.Maps

set_option maxHeartbeats 3200000 in
set_option maxRecDepth 100000 in
theorem like_any (v v' : Value) (m m' : Mat) (w : World) (h : HasMat w v m) (h' : HasMat w v' m') : Calls Tryz.prog 132 #[v, v'] w (BoolB (likeM m m') w) := by
  obtain ⟨a, c, rfl, hW, hs, hwf⟩ := h
  obtain ⟨a', c', rfl, hW', hs', hwf'⟩ := h'
  have HE := Lib.hid (fun W (hb : Below w.heap.size w W) => equal_any a a' c c' m.words m'.words W (hW.call hb) (hW'.call hb))
  have hb1 := Blk.new w 109 #[.string m.name, .int .i64 m.how, .slice a m.words.length c]
  have hb2 := hb1.alloc (.cells #[.string m'.name, .int .i64 m'.how, .slice a' m'.words.length c'] 109)
  have hb3 := Blk.new (w.alloc (.cells #[.string m.name, .int .i64 m.how, .slice a m.words.length c] 109)) 109 #[.string m'.name, .int .i64 m'.how, .slice a' m'.words.length c']
  have hbl := ((Below.refl _ w).alloc (Nat.le_refl _) (.cells #[.string m.name, .int .i64 m.how, .slice a m.words.length c] 109)).alloc (by simp) (.cells #[.string m'.name, .int .i64 m'.how, .slice a' m'.words.length c'] 109)
  have e1 : (w.alloc (.cells #[.string m.name, .int .i64 m.how, .slice a m.words.length c] 109)).heap.size = w.heap.size + 1 := by simp
  rw [e1] at hb3
  obtain ⟨x0, x1, x2⟩ := hb2.cells3
  obtain ⟨y0, y1, y2⟩ := hb3.cells3
  have X0 := Lib.hid x0
  have X1 := Lib.hid x1
  have X2 := Lib.hid x2
  have Y0 := Lib.hid y0
  have Y1 := Lib.hid y1
  have Y2 := Lib.hid y2
  have HB := Lib.hid hbl
  have e : likeM m m' = (decide (m.name = m'.name) && (decide (m.how = m'.how) && decide (m.words = m'.words))) := by rw [likeM, Bool.and_assoc]
  rw [e]
  have hq := name_beq m.name m'.name
  obtain ⟨D, hD⟩ : ∃ D, decide (m.words = m'.words) = D := ⟨_, rfl⟩
  rw [hD]
  rw [hD] at HE
  clear hW hW' hs hs' hwf hwf' hb1 hb2 hb3 hbl e1 e x0 x1 x2 y0 y1 y2 hD
  have x0 := X0.out
  have x1 := X1.out
  have x2 := X2.out
  have y0 := Y0.out
  have y1 := Y1.out
  have y2 := Y2.out
  clear X0 X1 X2 Y0 Y1 Y2
  by_cases h1 : m.name = m'.name
  · rw [decide_eq_true h1] at hq
    rw [decide_eq_true h1, Bool.true_and]
    clear h1
    by_cases h2 : m.how = m'.how
    · have h3 : (m.how == m'.how) = true := beq_iff_eq.2 h2
      rw [decide_eq_true h2, Bool.true_and]
      clear h2
      go_enter Tryz.func132, Tryz.ntmps132
      go_wp2_with (go_at_call 76; refine (HE.out _ HB.out).mono ?_; rintro e w2 ⟨rfl, hb2⟩)
      go_ret
      exact ⟨rfl, bthen HB.out hb2⟩
    · have h3 : (m.how == m'.how) = false := beq_eq_false_iff_ne.2 h2
      rw [decide_eq_false h2, Bool.false_and]
      clear h2
      go_enter Tryz.func132, Tryz.ntmps132
      go_wp2_with (go_at_call 76; refine (HE.out _ HB.out).mono ?_; rintro e w2 ⟨rfl, hb2⟩)
      go_ret
      exact ⟨rfl, HB.out⟩
  · rw [decide_eq_false h1] at hq
    rw [decide_eq_false h1, Bool.false_and]
    clear h1
    go_enter Tryz.func132, Tryz.ntmps132
    go_wp2_with (go_at_call 76; refine (HE.out _ HB.out).mono ?_; rintro e w2 ⟨rfl, hb2⟩)
    go_ret
    exact ⟨rfl, HB.out⟩

end Go.Proofs.YtkgnapojkijbgaaGreatDoor
/- routes.Like: rows compared place by place; the contract of slices.EqualFunc around matcher.Like. -/
namespace Go.Proofs.YtkgnapojkijbgaaGreatDoor
open Go.RowKit

noncomputable def eqB (p : Prop) : Bool := @decide p (Classical.propDecidable p)
theorem eqB_yes {p : Prop} (h : p) : eqB p = true := by unfold eqB; simp [h]
theorem eqB_no {p : Prop} (h : ¬ p) : eqB p = false := by unfold eqB; simp [h]
theorem rowsP {α : Type} : ∀ (xs ys : List α), xs.length = ys.length → ∃ J, J ≤ xs.length ∧ (∀ k (h : k < xs.length) (h' : k < ys.length), k < J → xs[k] = ys[k]) ∧ (J = xs.length ∧ xs = ys ∨ ∃ (h : J < xs.length) (h' : J < ys.length), xs[J] ≠ ys[J] ∧ xs ≠ ys)
  | [], [], _ => ⟨0, Nat.le_refl _, fun k h => by simp at h, .inl ⟨rfl, rfl⟩⟩
  | [], _ :: _, h => by simp at h
  | _ :: _, [], h => by simp at h
  | x :: xs, y :: ys, h => by
    by_cases e : x = y
    · obtain ⟨J, h1, h2, h3⟩ := rowsP xs ys (by simpa using h)
      refine ⟨J + 1, by simpa using h1, fun k hk hk' hJ => ?_, ?_⟩
      · cases k with
        | zero => exact e
        | succ k => exact h2 k (by simpa using hk) (by simpa using hk') (by omega)
      · rcases h3 with ⟨e1, e2⟩ | ⟨g1, g2, g3, g4⟩
        · exact .inl ⟨by simp [e1], by rw [e, e2]⟩
        · exact .inr ⟨by simpa using g1, by simpa using g2, g3, fun e' => g4 (by simpa [e] using e')⟩
    · exact ⟨0, Nat.zero_le _, fun k _ _ hk => by omega, .inr ⟨by simp, by simp, e, fun e' => e (by simpa using (List.cons.inj e').1)⟩⟩
theorem nbR (w : World) (o : Obj) (cs : Array Value) (t : TypeId) : Blk ((w.alloc o).alloc (.cells cs t)) (w.heap.size + 1) t cs := by
  have h := Blk.new (w.alloc o) t cs
  rwa [World.size_alloc] at h
theorem natNeR {a b : Nat} (h : a ≠ b) : ((a : Int) != (b : Int)) = true := by rw [bne_iff_ne]; omega
theorem natEqR {a b : Nat} (h : a = b) : ((a : Int) != (b : Int)) = false := by subst h; simp
theorem balR {w W : World} {o : Obj} (h : Below w.heap.size w W) : Below w.heap.size w (W.alloc o) := h.alloc h.size _
theorem likeM_eq (m m' : Mat) : likeM m m' = eqB (m = m') := by
  by_cases h : m = m'
  · subst h
    rw [eqB_yes rfl]
    simp [likeM]
  · rw [eqB_no h]
    cases e : likeM m m' with
    | false => rfl
    | true =>
      obtain ⟨a, b, c⟩ := m
      obtain ⟨a', b', c'⟩ := m'
      simp only [likeM, Bool.and_eq_true, decide_eq_true_eq] at e
      obtain ⟨⟨rfl, rfl⟩, rfl⟩ := e
      exact absurd rfl h
set_option maxHeartbeats 6400000 in
set_option maxRecDepth 100000 in
theorem eqMats_any (ma mb : Option Addr) (ca cb : Nat) (ms ns : List Mat) (w : World) (h : HasMats w ma ca ms) (h' : HasMats w mb cb ns) :
    Calls Tryz.prog 131 #[.slice ma ms.length ca, .slice mb ns.length cb, .func (.func 132) #[] #[]] w (BoolB (eqB (ms = ns)) w) := by
  obtain ⟨R, hR⟩ : ∃ R, eqB (ms = ns) = R := ⟨_, rfl⟩
  rw [hR]
  have HR := Lib.hid hR
  obtain ⟨hic1, hic2, hpl⟩ := h
  obtain ⟨hjc1, hjc2, hpp⟩ := h'
  have HPL := Lib.hid hpl
  have HPP := Lib.hid hpp
  unfold maxLen at hic2 hjc2
  clear hpl hpp hR
  go_enter Tryz.func131, Tryz.ntmps131
  by_cases hl : ms.length = ns.length
  case neg =>
    obtain rfl : R = false := by rw [← HR.out]; exact eqB_no (fun e => hl (by rw [e]))
    have f4 := natNeR hl
    clear hl
    go_wp2_with fail
    go_ret
    exact ⟨rfl, Below.refl _ _⟩
  have f4 := natEqR hl
  obtain ⟨I, hI, hgood, hend⟩ := rowsP ms ns hl
  have HGI := Lib.hid hgood
  have HEI := Lib.hid hend
  have HIL := Lib.hid hl
  clear hgood hend hl
  go_wp2_with fail
  go_loopg [17, 7, 8, 9] ms.length (fun gg iv _ _ _ wr => ∃ k : Nat, k + gg = ms.length ∧ k ≤ I ∧ iv = .int .i64 k ∧ Below w.heap.size w wr)
  case atStart => exact ⟨0, by omega, Nat.zero_le _, rfl, Below.refl _ _⟩
  case round =>
    clear f4
    obtain ⟨k, hkg, hkI, rfl, hbr⟩ := hrel
    cases gk with
    | zero =>
      obtain rfl : k = ms.length := by omega
      obtain rfl : R = true := by
        rcases HEI.out with ⟨_, e⟩ | ⟨h1, _, _, _⟩
        · rw [← HR.out]
          exact eqB_yes e
        · omega
      go_wp2_with fail
      go_ret
      exact ⟨rfl, hbr⟩
    | succ gg =>
      have hkl : k < ms.length := by omega
      have hkm : k < ns.length := by have := HIL.out; omega
      obtain ⟨b1, o1, rfl, x1, y1, ⟨g0, g1, g2⟩, gs, gn, gw⟩ : ∃ b off, ma = some ⟨b, off, none⟩ ∧ ∃ x y,
          (w.cell? ⟨b, off + k * 3, none⟩ = some (.string ms[k].name) ∧ w.cell? ⟨b, off + k * 3 + 1, none⟩ = some (.int .i64 ms[k].how) ∧ w.cell? ⟨b, off + k * 3 + 2, none⟩ = some (.slice x ms[k].words.length y)) ∧ HasStrs w x y ms[k].words ∧ ms[k].name.size ≤ maxLen ∧ (Lit.int .i64 ms[k].how).wf = true := by
        rcases HPL.out with h | ⟨b, off, h1, _, h3⟩
        · rw [h] at hkl; simp at hkl
        · exact ⟨b, off, h1, h3 k hkl⟩
      obtain ⟨b2, o2, rfl, x2, y2, ⟨k0, k1, k2⟩, ks, kn, kw⟩ : ∃ b off, mb = some ⟨b, off, none⟩ ∧ ∃ x y,
          (w.cell? ⟨b, off + k * 3, none⟩ = some (.string ns[k].name) ∧ w.cell? ⟨b, off + k * 3 + 1, none⟩ = some (.int .i64 ns[k].how) ∧ w.cell? ⟨b, off + k * 3 + 2, none⟩ = some (.slice x ns[k].words.length y)) ∧ HasStrs w x y ns[k].words ∧ ns[k].name.size ≤ maxLen ∧ (Lit.int .i64 ns[k].how).wf = true := by
        rcases HPP.out with h | ⟨b, off, h1, _, h3⟩
        · rw [h] at hkm; simp at hkm
        · exact ⟨b, off, h1, h3 k hkm⟩
      have e0 := cellL hbr g0
      have e1 := cellL hbr g1
      have e2 := cellL hbr g2
      generalize hmk : ms[k] = m at *
      generalize hnk : ns[k] = n at *
      have hb1 := balR (o := .cells #[.string m.name, .int .i64 m.how, .slice x1 m.words.length y1] 109) (Below.refl wr.heap.size wr)
      have f0 := cellL (bthen hbr hb1) k0
      have f1 := cellL (bthen hbr hb1) k1
      have f2 := cellL (bthen hbr hb1) k2
      have hb2 := balR (o := .cells #[.string n.name, .int .i64 n.how, .slice x2 n.words.length y2] 109) hb1
      have hA := (Blk.new wr 109 #[.string m.name, .int .i64 m.how, .slice x1 m.words.length y1]).alloc (.cells #[.string n.name, .int .i64 n.how, .slice x2 n.words.length y2] 109)
      have hB := nbR wr (.cells #[.string m.name, .int .i64 m.how, .slice x1 m.words.length y1] 109) #[.string n.name, .int .i64 n.how, .slice x2 n.words.length y2] 109
      have hM := like_any (.agg #[.string m.name, .int .i64 m.how, .slice x1 m.words.length y1]) (.agg #[.string n.name, .int .i64 n.how, .slice x2 n.words.length y2]) m n ((wr.alloc (.cells #[.string m.name, .int .i64 m.how, .slice x1 m.words.length y1] 109)).alloc (.cells #[.string n.name, .int .i64 n.how, .slice x2 n.words.length y2] 109))
        ⟨x1, y1, rfl, gs.call (bthen hbr hb2), gn, gw⟩ ⟨x2, y2, rfl, ks.call (bthen hbr hb2), kn, kw⟩
      rw [likeM_eq] at hM
      obtain ⟨X, hX⟩ : ∃ X, eqB (m = n) = X := ⟨_, rfl⟩
      rw [hX] at hM
      have HM := Lib.hid hM
      have HB2 := Lib.hid (bthen hbr hb2)
      have hrr : k = I → X = false ∧ R = false := fun e => by
        rcases HEI.out with ⟨h1, _⟩ | ⟨_, _, h3, h4⟩
        · omega
        · subst e
          rw [hmk, hnk] at h3
          exact ⟨by rw [← hX]; exact eqB_no h3, by rw [← HR.out]; exact eqB_no h4⟩
      have hgg : k ≠ I → X = true := fun e => by
        have := HGI.out k hkl hkm (by omega)
        rw [hmk, hnk] at this
        rw [← hX]; exact eqB_yes this
      obtain ⟨c0, c1, c2⟩ := hA.cells3
      obtain ⟨d0, d1, d2⟩ := hB.cells3
      clear hX hmk hnk hM hb1 hb2 hA hB hbr g0 g1 g2 k0 k1 k2 gs gn ks kn
      by_cases hkI2 : k = I
      · obtain ⟨rfl, rfl⟩ := hrr hkI2
        clear hrr hgg hkI2 hkI
        go_wp2_with (go_at_call 132; refine HM.out.mono ?_; rintro e w3 ⟨rfl, hb3⟩)
        go_ret
        exact ⟨rfl, bthen HB2.out hb3⟩
      · obtain rfl := hgg hkI2
        clear hrr hgg
        go_wp2_with (go_at_call 132; refine HM.out.mono ?_; rintro e w3 ⟨rfl, hb3⟩)
        go_roundg gg
        case measure => omega
        case rel => exact ⟨k + 1, by omega, by omega, by go_num, bthen HB2.out hb3⟩
end Go.Proofs.YtkgnapojkijbgaaGreatDoor
/- The contracts of config.rightRoute and of config.Right. -/
namespace Go.Proofs.YtkgnapojkijbgaaGreatDoor
open Go.RowKit

/-- a configuration, with the places of its lists -/
structure CfA where
  ru : List RuA
  ua : Option Addr
  uc : Nat
  rt : RtAt
  re : List ByteArray
  ra : Option Addr
  rc : Nat
  ih : List InA
  ia : Option Addr
  ic : Nat
  hr : List HrA
  ha : Option Addr
  hc : Nat
abbrev kCells (k : CfA) : Array Value := #[.slice k.ua k.ru.length k.uc, .string k.rt.n.recv, .slice k.rt.ma k.rt.n.ms.length k.rt.mc, .slice k.rt.ba k.rt.n.bys.length k.rt.bc, .int .i64 k.rt.n.wait, .int .i64 k.rt.n.every, .int .i64 k.rt.n.rep, .slice k.rt.ua k.rt.n.mute.length k.rt.uc, .bool k.rt.n.on, .slice k.rt.ka k.rt.n.kids.length k.rt.kc,
  .slice k.ra k.re.length k.rc, .slice k.ia k.ih.length k.ic, .slice k.ha k.hr.length k.hc]
def CfA.ok (w : World) (k : CfA) : Prop := HasRules w k.ua k.uc k.ru ∧ k.rt.ok w ∧ HasStrs w k.ra k.rc k.re ∧ HasInhs w k.ia k.ic k.ih ∧ HasHours w k.ha k.hc k.hr
theorem CfA.ok.call {w w1 : World} {k : CfA} (h : CfA.ok w k) (hb : Below w.heap.size w w1) : CfA.ok w1 k := ⟨h.1.keep hb, h.2.1.call hb, h.2.2.1.call hb, h.2.2.2.1.keep hb, h.2.2.2.2.keep hb⟩
theorem Blk.cells13 {w : World} {g : Nat} {t : TypeId} {x0 x1 x2 x3 x4 x5 x6 x7 x8 x9 y0 y1 y2 : Value} (h : Blk w g t #[x0, x1, x2, x3, x4, x5, x6, x7, x8, x9, y0, y1, y2]) :
    w.cell? ⟨g, 0, none⟩ = some x0 ∧ w.cell? ⟨g, 1, none⟩ = some x1 ∧ w.cell? ⟨g, 2, none⟩ = some x2 ∧ w.cell? ⟨g, 3, none⟩ = some x3 ∧ w.cell? ⟨g, 4, none⟩ = some x4 ∧ w.cell? ⟨g, 5, none⟩ = some x5 ∧ w.cell? ⟨g, 6, none⟩ = some x6 ∧ w.cell? ⟨g, 7, none⟩ = some x7 ∧ w.cell? ⟨g, 8, none⟩ = some x8 ∧ w.cell? ⟨g, 9, none⟩ = some x9 ∧ w.cell? ⟨g, 10, none⟩ = some y0 ∧ w.cell? ⟨g, 11, none⟩ = some y1 ∧ w.cell? ⟨g, 12, none⟩ = some y2 :=
  ⟨h.cell 0, h.cell 1, h.cell 2, h.cell 3, h.cell 4, h.cell 5, h.cell 6, h.cell 7, h.cell 8, h.cell 9, h.cell 10, h.cell 11, h.cell 12⟩
mutual
theorem count_le : ∀ (n : Rt) (d : Nat), rightRt d n = true → n.count ≤ 17 ^ d
  | .mk r m b a e p u o xs, 0, h => by cases h
  | .mk r m b a e p u o xs, d + 1, h => by
    simp only [rightRt, Bool.and_eq_true] at h
    have h16 := (alone_kids h.1).1
    have hk := countRs_bound xs d (by simpa [List.all_eq_true, Rt.kids] using h.2)
    simp only [Rt.kids] at h16
    simp only [Rt.count]
    have : xs.length * 17 ^ d ≤ 16 * 17 ^ d := Nat.mul_le_mul_right _ h16
    have h1 : 1 ≤ 17 ^ d := Nat.one_le_pow _ _ (by omega)
    rw [Nat.pow_succ]
    omega
theorem countRs_bound : ∀ (xs : List Rt) (d : Nat), (∀ x ∈ xs, rightRt d x = true) → countRs xs ≤ xs.length * 17 ^ d
  | [], d, _ => by simp [countRs]
  | x :: xs, d, h => by
    have h1 := count_le x d (h x (by simp))
    have h2 := countRs_bound xs d (fun y hy => h y (by simp [hy]))
    simp only [countRs, List.length_cons, Nat.succ_mul]
    omega
end
theorem rteC_count {n : Rt} (h : rteC n = true) : n.count ≤ 100000 := Nat.le_trans (count_le n 4 h) (by decide)
/-- may the route of a configuration be, and is all that it names there? -/
def routeC (k : CfA) : Bool := rteC k.rt.n && (!decide (0 < k.rt.n.ms.length) && (!k.rt.n.on && (!decide (32 < k.rt.n.count) && (amongB (onceL (tellL recvT k.rt.n.all)) k.re && amongB (onceL (tellL muteT k.rt.n.all)) (k.hr.map HrA.n)))))
set_option maxHeartbeats 12800000 in
set_option maxRecDepth 100000 in
theorem cfgRoute_any (k : CfA) (w : World) (h : k.ok w) (h8 : k.hr.length ≤ 1000000) : Calls Tryz.prog 62 #[.agg (kCells k)] w (BoolB (routeC k) w) := by
  have hb := (Below.refl w.heap.size w).alloc (Nat.le_refl _) (.cells (kCells k) 31)
  have hb2 := balR (o := .cells (tCells k.rt) 27) hb
  have hA := (Blk.new w 31 (kCells k)).alloc (.cells (tCells k.rt) 27)
  have hA0 := Blk.new w 31 (kCells k)
  have hB := nbR w (.cells (kCells k) 31) (tCells k.rt) 27
  have HR := Lib.hid (fun W (hW : Below w.heap.size w W) => rteRight_any k.rt W (h.2.1.call hW))
  have HCO := Lib.hid (fun W (hW : Below w.heap.size w W) (hc : k.rt.n.count ≤ 100000) => count_any W k.rt (h.2.1.call hW) hc)
  have HNA := Lib.hid (fun W (hW : Below w.heap.size w W) (hc : k.rt.n.count ≤ 60) => routesNames_any W k.rt (h.2.1.call hW) hc)
  have HEA := Lib.hid (fun W (hW : Below w.heap.size w W) => eachH_any k.ha k.hc k.hr W (h.2.2.2.2.keep hW) h8)
  obtain ⟨N, hN⟩ : ∃ N, k.hr.map HrA.n = N := ⟨_, rfl⟩
  have hsz : ∀ s ∈ N, s.size ≤ maxLen := fun s hs => by
    rw [← hN] at hs
    obtain ⟨x, hx, rfl⟩ := List.mem_map.1 hs
    exact (h.2.2.2.2.2.2.1 x hx).1
  have HSZ := Lib.hid hsz
  have hRR : routeC k = (rteC k.rt.n && (!decide (0 < k.rt.n.ms.length) && (!k.rt.n.on && (!decide (32 < k.rt.n.count) && (amongB (onceL (tellL recvT k.rt.n.all)) k.re && amongB (onceL (tellL muteT k.rt.n.all)) (k.hr.map HrA.n)))))) := rfl
  have HC1 := Lib.hid (fun e => rteC_count (n := k.rt.n) e)
  obtain ⟨R, hR⟩ : ∃ R, routeC k = R := ⟨_, rfl⟩
  obtain ⟨B1, hB1⟩ : ∃ R, rteC k.rt.n = R := ⟨_, rfl⟩
  obtain ⟨X, hX⟩ : ∃ X, onceL (tellL recvT k.rt.n.all) = X := ⟨_, rfl⟩
  obtain ⟨Y, hY⟩ : ∃ X, onceL (tellL muteT k.rt.n.all) = X := ⟨_, rfl⟩
  obtain ⟨B5, hB5⟩ : ∃ R, amongB X k.re = R := ⟨_, rfl⟩
  obtain ⟨B6, hB6⟩ : ∃ R, amongB Y N = R := ⟨_, rfl⟩
  have HAX := Lib.hid (fun W (hW : Below w.heap.size w W) a c (hx : HasStrs W a c X) => (show Calls Tryz.prog 120 #[.slice a X.length c, .slice k.ra k.re.length k.rc] W (BoolB B5 W) from hB5 ▸ among_any a c X k.ra k.rc k.re W hx (h.2.2.1.call hW)))
  have HAY := Lib.hid (fun W a c na nc (hx : HasStrs W a c Y) (hn : HasStrs W na nc N) => (show Calls Tryz.prog 120 #[.slice a Y.length c, .slice na N.length nc] W (BoolB B6 W) from hB6 ▸ among_any a c Y na nc N W hx hn))
  rw [hR, hB1, hX, hY, hN, hB5, hB6] at hRR
  rw [hR]
  simp only [hB1] at HR HC1
  simp only [hX, hY] at HNA
  simp only [hN] at HEA
  have HRR := Lib.hid hRR
  have HB := Lib.hid hb2
  clear hb hb2 h hR hB1 hX hY hB5 hB6 hRR hsz hN h8
  obtain ⟨ru, ua, uc, ⟨n, ma, mc, ba, bc, ma', mc', ka, kc⟩, re, ra, rc, ih, ia, ic, hr, ha, hc⟩ := k
  simp only [tCells, kCells] at *
  obtain ⟨x0, x1, x2, x3, x4, x5, x6, x7, x8, x9, x10, x11, x12⟩ := hA0.cells13
  go_enter Tryz.func62, Tryz.ntmps62
  go_upto_region 2 with fail
  obtain ⟨g, hg⟩ : ∃ g, w.heap.size = g := ⟨_, rfl⟩
  clear x0 x1 x2 x3 x4 x5 x6 x7 x8 x9 x10 x11 x12 hA0
  generalize (w.alloc (.cells #[.slice ua ru.length uc, .string n.recv, .slice ma n.ms.length mc, .slice ba n.bys.length bc, .int .i64 n.wait, .int .i64 n.every, .int .i64 n.rep, .slice ma' n.mute.length mc', .bool n.on, .slice ka n.kids.length kc, .slice ra re.length rc, .slice ia ih.length ic, .slice ha hr.length hc] 31)).alloc (.cells #[.string n.recv, .slice ma n.ms.length mc, .slice ba n.bys.length bc, .int .i64 n.wait, .int .i64 n.every, .int .i64 n.rep, .slice ma' n.mute.length mc', .bool n.on, .slice ka n.kids.length kc] 27) = wx at *
  rw [hg] at hA hB ⊢
  clear hg
  have HAC := Lib.hid (fun W (hW : Below wx.heap.size wx W) => (hA.call hW).cells13)
  have HBC := Lib.hid (fun W (hW : Below wx.heap.size wx W) => (hB.call hW).cells9)
  obtain ⟨c0, c1, c2, c3, c4, c5, c6, c7, c8⟩ := hB.cells9
  clear hA hB
  cases B1
  case false =>
    go_wp2_with (go_at_call 117; refine (HR.out _ HB.out).mono ?_; rintro e w2 ⟨rfl, hb2⟩)
    go_ret
    exact ⟨by rw [HRR.out]; rfl, bthen HB.out hb2⟩
  have hcn := HC1.out rfl
  by_cases h2 : 0 < n.ms.length
  · have d2 : decide ((0 : Int) < (n.ms.length : Int)) = true := decide_eq_true (by omega)
    have d2' : decide (0 < n.ms.length) = true := decide_eq_true h2
    obtain rfl : R = false := by rw [HRR.out, d2']; rfl
    clear h2 HRR HC1
    go_wp2_with (go_at_call 117; refine (HR.out _ HB.out).mono ?_; rintro e w2 ⟨rfl, hb2⟩; obtain ⟨e0, e1, e2, e3, e4, e5, e6, e7, e8⟩ := HBC.out _ hb2)
    go_ret
    exact ⟨rfl, bthen HB.out hb2⟩
  have d2 : decide ((0 : Int) < (n.ms.length : Int)) = false := decide_eq_false (by omega)
  have d2' : decide (0 < n.ms.length) = false := decide_eq_false h2
  have HRR2 := Lib.hid (show R = (!n.on && (!decide (32 < n.count) && (B5 && B6))) from by rw [HRR.out, d2']; rfl)
  obtain ⟨O, hO⟩ : ∃ O, n.on = O := ⟨_, rfl⟩
  rw [hO] at c7 HRR2 HBC HNA HCO HR HAC
  clear HRR HC1 h2 hO
  cases O
  case true =>
    obtain rfl : R = false := by rw [HRR2.out]; rfl
    clear HRR2
    go_wp2_with (go_at_call 117; refine (HR.out _ HB.out).mono ?_; rintro e w2 ⟨rfl, hb2⟩; obtain ⟨e0, e1, e2, e3, e4, e5, e6, e7, e8⟩ := HBC.out _ hb2)
    go_ret
    exact ⟨rfl, bthen HB.out hb2⟩
  by_cases h3 : 32 < n.count
  · have d3 : decide ((32 : Int) < (n.count : Int)) = true := decide_eq_true (by omega)
    have d3' : decide (32 < n.count) = true := decide_eq_true h3
    obtain rfl : R = false := by rw [HRR2.out, d3']; rfl
    clear h3 HRR2
    go_wp2_with (first
      | (go_at_call 117; refine (HR.out _ HB.out).mono ?_; rintro e w2 ⟨rfl, hb2⟩; obtain ⟨e0, e1, e2, e3, e4, e5, e6, e7, e8⟩ := HBC.out _ hb2)
      | (go_at_call 118; refine (HCO.out _ (bthen HB.out hb2) hcn).mono ?_; rintro e w3 ⟨rfl, hb3⟩))
    go_ret
    exact ⟨rfl, bthen HB.out (bthen hb2 hb3)⟩
  have d3 : decide ((32 : Int) < (n.count : Int)) = false := decide_eq_false (by omega)
  have d3' : decide (32 < n.count) = false := decide_eq_false h3
  have HRR3 := Lib.hid (show R = (B5 && B6) from by rw [HRR2.out, d3']; rfl)
  have h60 : n.count ≤ 60 := by omega
  clear HRR2 h3
  go_upto_region 4 with (first
    | (go_at_call 117; refine (HR.out _ HB.out).mono ?_; rintro e w2 ⟨rfl, hb2⟩; obtain ⟨e0, e1, e2, e3, e4, e5, e6, e7, e8⟩ := HBC.out _ hb2)
    | (go_at_call 118; refine (HCO.out _ (bthen HB.out hb2) hcn).mono ?_; rintro e w3 ⟨rfl, hb3⟩))
  clear c0 c1 c2 c3 c4 c5 c6 c7 c8 e0 e1 e2 e3 e4 e5 e6 e7 e8 d2 d2' d3 d3'
  have hb03 := bthen hb2 hb3
  obtain ⟨e0, e1, e2, e3, e4, e5, e6, e7, e8⟩ := HBC.out _ hb03
  have HB03 := Lib.hid hb03
  clear hb03 hb2 hb3
  go_upto_region 5 with (go_at_call 119; refine (HNA.out _ (bthen HB.out HB03.out) h60).mono ?_; rintro e w4 ⟨xa, xc, ya, yc, rfl, hx4, hy4, hb4⟩)
  clear e0 e1 e2 e3 e4 e5 e6 e7 e8 hcn h60
  have HB04 := Lib.hid (bthen HB03.out hb4)
  obtain ⟨f0, f1, f2, f3, f4, f5, f6, f7, f8, f9, f10, f11, f12⟩ := HAC.out _ HB04.out
  have HX := Lib.hid hx4
  have HY := Lib.hid hy4
  clear hx4 hy4 hb4
  cases B5 with
  | false =>
    go_wp2_with (go_at_call 120; (with_reducible refine (HAX.out _ (bthen HB.out HB04.out) xa xc HX.out).mono ?_); rintro e w5 ⟨rfl, hb5⟩)
    go_ret
    exact ⟨by rw [HRR3.out]; rfl, bthen HB.out (bthen HB04.out hb5)⟩
  | true =>
    go_wp2_with (first
      | (go_at_call 120; (with_reducible refine (HAX.out _ (bthen HB.out HB04.out) xa xc HX.out).mono ?_); rintro e w5 ⟨rfl, hb5⟩; obtain ⟨p0, p1, p2, p3, p4, p5, p6, p7, p8, p9, p10, p11, p12⟩ := HAC.out _ (bthen HB04.out hb5))
      | (go_at_call 60; refine (HEA.out _ (bthen HB.out (bthen HB04.out hb5))).mono ?_; rintro e w6 ⟨v6, rfl, ho6, hb6⟩; obtain ⟨na, nc, rfl, hn6⟩ := ho6.strs HSZ.out)
      | (go_at_call 120; (with_reducible refine (HAY.out _ ya yc na nc (HY.out.call (bthen hb5 hb6)) hn6).mono ?_); rintro e w7 ⟨rfl, hb7⟩))
    go_ret
    exact ⟨by rw [HRR3.out]; rfl, bthen HB.out (bthen HB04.out (bthen hb5 (bthen hb6 hb7)))⟩
end Go.Proofs.YtkgnapojkijbgaaGreatDoor
