/- What is kept of labels. -/
import Derived.Test.YtmhekhilgllciaaGreatMg3
import Derived.Test.YtmhekhilgllciaaGreatZLabN
import Derived.Test.YtmhekhilgllciaaGreatRulB
import Derived.Test.YtmhekhilgllciaaGreatMg8
import Derived.Test.YtmhekhilgllciaaGreatLater
import Derived.Test.YtmhekhilgllciaaGreatMg7
import Derived.Test.YtmhekhilgllciaaGreatMg5
import Derived.Test.YtmhekhilgllciaaGreatMg1
import Derived.Deep.CutBlock
import Derived.Deep.RegionHeld3
namespace Go.Proofs.YtmhekhilgllciaaGreat
open Go.RowKit
open Go.WideShapes (bytes_inj)


def keepL (ls : List Lab) (ns : List ByteArray) : List Lab := ls.filter fun l => inB l.1 ns
theorem keepL_take (ls : List Lab) (ns : List ByteArray) (k : Nat) (h : k < ls.length) : keepL (ls.take (k + 1)) ns = keepL (ls.take k) ns ++ (if inB ls[k].1 ns = true then [ls[k]] else []) := by
  rw [List.take_succ_eq_append_getElem h, keepL, List.filter_append]
  congr 1
  by_cases hq : inB ls[k].1 ns = true <;> simp [hq]
theorem keepL_sub (ls : List Lab) (ns : List ByteArray) (P : Lab → Prop) (h : ∀ l ∈ ls, P l) : ∀ l ∈ keepL ls ns, P l := fun l hl => h l (List.mem_filter.1 hl).1
theorem keepL_len (ls : List Lab) (ns : List ByteArray) : (keepL ls ns).length ≤ ls.length := List.length_filter_le _ _
def LabsE (ls : List Lab) (n : Int) (w : World) (e : Ending) (w' : World) : Prop := ∃ a c, e = .returned (.tuple #[.slice a ls.length c, .int .i64 n]) ∧ HasLabs w' a c ls ∧ Below w.heap.size w w'
theorem labsE_nil {n : Int} {w w' : World} (hb : Below w.heap.size w w') : LabsE [] n w (.returned (.tuple #[.slice none 0 0, .int .i64 n])) w' := ⟨none, 0, rfl, HasLabs.nil _ _ _ (by unfold maxLen; omega), hb⟩

def keepP (ls : List Lab) (ns : List ByteArray) : List Lab × Int := if rightC ls = true then (keepL ls ns, 0) else ([], 1)
end Go.Proofs.YtmhekhilgllciaaGreat
/- The contract of the library's Equal of rows of labels. -/
namespace Go.Proofs.YtmhekhilgllciaaGreat
open Go.RowKit
open Go.WideShapes (bytes_inj)

set_option maxHeartbeats 1600000 in
set_option maxRecDepth 100000 in
theorem equalL_some (b off c b' off' c' : Nat) (ls ms : List Lab) (w : World) (hlc : ls.length ≤ c) (hcm : c ≤ maxLen) (hlc' : ms.length ≤ c') (_hcm' : c' ≤ maxLen) (_hb : b < w.heap.size) (_hb' : b' < w.heap.size)
    (hcell : ∀ i (h : i < ls.length), w.cell? ⟨b, off + i * 2, none⟩ = some (.string ls[i].1) ∧ w.cell? ⟨b, off + i * 2 + 1, none⟩ = some (.string ls[i].2))
    (hcell' : ∀ i (h : i < ms.length), w.cell? ⟨b', off' + i * 2, none⟩ = some (.string ms[i].1) ∧ w.cell? ⟨b', off' + i * 2 + 1, none⟩ = some (.string ms[i].2)) (hl : ls.length = ms.length) :
    Calls Tryz.prog 103 #[.slice (some ⟨b, off, none⟩) ls.length c, .slice (some ⟨b', off', none⟩) ms.length c'] w (BoolB (decide (ls = ms)) w) := by
  unfold maxLen at hcm _hcm'
  have HC := Lib.hid hcell
  have HC' := Lib.hid hcell'
  have hlen : ((ls.length : Int) != (ms.length : Int)) = false := by rw [hl]; simp
  have hlb : ms.length ≤ ls.length := by omega
  have hlb' : ls.length ≤ ms.length := by omega
  have HL := Lib.hid hl
  clear hcell hcell' hl
  go_enter Tryz.func103, Tryz.ntmps103
  go_wp2
  go_loopw [13] (fun i wr => ∃ k : Nat, k ≤ ls.length ∧ i = .int .i64 k ∧ ls.take k = ms.take k ∧ Below w.heap.size w wr) (fun i _ => ls.length - (intOf i).toNat)
  case atStart => exact ⟨0, Nat.zero_le _, rfl, rfl, Below.refl _ _⟩
  case round =>
    obtain ⟨k, hk, rfl, he, hbl⟩ := hrel
    have HE := Lib.hid he
    clear he
    by_cases hkl : k < ls.length
    · have hkm : k < ms.length := by omega
      have hc1 := cellLater hbl (HC.out k hkl).1
      have hc2 := cellLater hbl (HC.out k hkl).2
      have hd1 := cellLater hbl (HC'.out k hkm).1
      have hd2 := cellLater hbl (HC'.out k hkm).2
      have hne := fun W => run_neq_lab ls[k] (ms[k]'hkm) W
      by_cases hq : ls[k] = ms[k]'hkm
      · have htk : ls.take (k + 1) = ms.take (k + 1) := by
          rw [List.take_succ_eq_append_getElem hkl, List.take_succ_eq_append_getElem hkm, HE.out, hq]
        have HT := Lib.hid htk
        rw [decide_eq_true hq] at hne
        clear htk hq
        go_wp2_with fail
        go_quiet (fail)
        go_wp2
        go_roundw
        case rel => exact ⟨k + 1, by omega, by go_num, HT.out, below_drewN hbl _⟩
        case measure => simp [intOf]; omega
      · have hf : decide (ls = ms) = false := by
          rw [decide_eq_false_iff_not]
          intro e
          subst e
          exact hq rfl
        have HF := Lib.hid hf
        rw [decide_eq_false hq] at hne
        clear hq hf
        go_wp2_with fail
        go_quiet (fail)
        go_wp2
        go_ret
        rw [HF.out]
        exact ⟨rfl, below_drewN hbl _⟩
    · have ht : decide (ls = ms) = true := by
        have := HE.out
        rw [List.take_of_length_le (by omega), List.take_of_length_le (by omega)] at this
        rw [decide_eq_true_iff]; exact this
      go_wp2
      go_ret
      rw [ht]
      exact ⟨rfl, hbl⟩

theorem equalL_any (a a' : Option Addr) (c c' : Nat) (ls ms : List Lab) (w : World) (h : HasLabs w a c ls) (h' : HasLabs w a' c' ms) :
    Calls Tryz.prog 103 #[.slice a ls.length c, .slice a' ms.length c'] w (BoolB (decide (ls = ms)) w) := by
  obtain ⟨h1, h2, h3, h4⟩ := h
  obtain ⟨g1, g2, g3, g4⟩ := h'
  unfold maxLen at h2 g2
  by_cases hl : ls.length = ms.length
  · rcases h4 with rfl | ⟨b, off, rfl, hb, hc⟩
    · obtain rfl : ms = [] := List.eq_nil_of_length_eq_zero hl.symm
      go_enter Tryz.func103, Tryz.ntmps103
      go_wp2
      refine wp_loop_rounds 1 ?_
      rw [rounds_succ]
      go_wp2
      go_ret
      exact ⟨rfl, Below.refl _ _⟩
    · rcases g4 with rfl | ⟨b', off', rfl, hb', hc'⟩
      · obtain rfl : ls = [] := List.eq_nil_of_length_eq_zero hl
        go_enter Tryz.func103, Tryz.ntmps103
        go_wp2
        refine wp_loop_rounds 1 ?_
        rw [rounds_succ]
        go_wp2
        go_ret
        exact ⟨rfl, Below.refl _ _⟩
      · exact equalL_some b off c b' off' c' ls ms w h1 (by unfold maxLen; omega) g1 (by unfold maxLen; omega) hb hb' hc hc' hl
  · have hlen : ((ls.length : Int) != (ms.length : Int)) = true := by rw [bne_iff_ne]; omega
    have hf : decide (ls = ms) = false := by
      rw [decide_eq_false_iff_not]
      intro e
      exact hl (by rw [e])
    rw [hf]
    clear hl hf h3 h4 g3 g4
    go_enter Tryz.func103, Tryz.ntmps103
    go_wp2
    go_ret
    exact ⟨rfl, Below.refl _ _⟩

end Go.Proofs.YtmhekhilgllciaaGreat
/- The contracts of rules.Like. -/
namespace Go.Proofs.YtmhekhilgllciaaGreat
open Go.RowKit

def likeR (r s : Rul) : Bool := decide (r.name = s.name) && (decide (r.metric = s.metric) && (decide (r.how = s.how) && (decide (r.limit = s.limit) && (decide (r.fr = s.fr) && (decide (r.keep = s.keep) && (decide (r.tries = s.tries) && decide (r.labels = s.labels)))))))
theorem likeR_iff (r s : Rul) : likeR r s = true ↔ r = s := by
  obtain ⟨n, m, k, l, f, p, t, ls⟩ := r
  obtain ⟨n2, m2, k2, l2, f2, p2, t2, ms⟩ := s
  simp [likeR]
theorem likeR_refl (r : Rul) : likeR r r = true := (likeR_iff r r).2 rfl
theorem name_eqR (a b : ByteArray) : (a.toList == b.toList) = decide (a = b) := toList_eq_iff a b

set_option maxHeartbeats 6400000 in
set_option maxRecDepth 100000 in
theorem rulLike_any (r r' : Rul) (a a' : Option Addr) (c c' : Nat) (w : World) (h : RulAt w r a c) (h' : RulAt w r' a' c') : Calls Tryz.prog 50 #[.agg (rCells r a c), .agg (rCells r' a' c')] w (BoolB (likeR r r') w) := by
  obtain ⟨n, m, k, l, f, p, t, ls⟩ := r
  obtain ⟨n2, m2, k2, l2, f2, p2, t2, ms⟩ := r'
  obtain ⟨hW, _, _⟩ := h
  obtain ⟨hW', _, _⟩ := h'
  simp only [rCells, likeR] at *
  have HE := Lib.hid (fun W (hb : Below w.heap.size w W) => equalL_any a a' c c' ls ms W (hW.call hb) (hW'.call hb))
  have hb1 := (Blk.new w 45 #[.string n, .string m, .int .i64 k, .int .i64 l, .int .i64 f, .int .i64 p, .int .i64 t, .slice a ls.length c]).alloc (.cells #[.string n2, .string m2, .int .i64 k2, .int .i64 l2, .int .i64 f2, .int .i64 p2, .int .i64 t2, .slice a' ms.length c'] 45)
  have hb3 := Blk.new (w.alloc (.cells #[.string n, .string m, .int .i64 k, .int .i64 l, .int .i64 f, .int .i64 p, .int .i64 t, .slice a ls.length c] 45)) 45 #[.string n2, .string m2, .int .i64 k2, .int .i64 l2, .int .i64 f2, .int .i64 p2, .int .i64 t2, .slice a' ms.length c']
  have hbl := ((Below.refl _ w).alloc (Nat.le_refl _) (.cells #[.string n, .string m, .int .i64 k, .int .i64 l, .int .i64 f, .int .i64 p, .int .i64 t, .slice a ls.length c] 45)).alloc (by simp) (.cells #[.string n2, .string m2, .int .i64 k2, .int .i64 l2, .int .i64 f2, .int .i64 p2, .int .i64 t2, .slice a' ms.length c'] 45)
  have e1 : (w.alloc (.cells #[.string n, .string m, .int .i64 k, .int .i64 l, .int .i64 f, .int .i64 p, .int .i64 t, .slice a ls.length c] 45)).heap.size = w.heap.size + 1 := by simp
  rw [e1] at hb3
  obtain ⟨x0, x1, x2, x3, x4, x5, x6, x7⟩ := hb1.cells8
  obtain ⟨y0, y1, y2, y3, y4, y5, y6, y7⟩ := hb3.cells8
  have HB := Lib.hid hbl
  obtain ⟨D, hD⟩ : ∃ D, decide (ls = ms) = D := ⟨_, rfl⟩
  rw [hD]
  rw [hD] at HE
  clear hW hW' hb1 hb3 hbl e1 hD
  by_cases h0 : n = n2
  · have q0 : (n.toList == n2.toList) = true := by rw [name_eqR]; exact decide_eq_true h0
    rw [decide_eq_true h0, Bool.true_and]
    clear h0
    by_cases h1 : m = m2
    · have q1 : (m.toList == m2.toList) = true := by rw [name_eqR]; exact decide_eq_true h1
      rw [decide_eq_true h1, Bool.true_and]
      clear h1
      by_cases h2 : k = k2
      · have q2 : (k == k2) = true := beq_iff_eq.2 h2
        rw [decide_eq_true h2, Bool.true_and]
        clear h2
        by_cases h3 : l = l2
        · have q3 : (l == l2) = true := beq_iff_eq.2 h3
          rw [decide_eq_true h3, Bool.true_and]
          clear h3
          by_cases h4 : f = f2
          · have q4 : (f == f2) = true := beq_iff_eq.2 h4
            rw [decide_eq_true h4, Bool.true_and]
            clear h4
            by_cases h5 : p = p2
            · have q5 : (p == p2) = true := beq_iff_eq.2 h5
              rw [decide_eq_true h5, Bool.true_and]
              clear h5
              by_cases h6 : t = t2
              · have q6 : (t == t2) = true := beq_iff_eq.2 h6
                rw [decide_eq_true h6, Bool.true_and]
                clear h6
                go_enter Tryz.func50, Tryz.ntmps50
                go_wp2_with (go_at_call 103; refine (HE.out _ HB.out).mono ?_; rintro e w2 ⟨rfl, hb2⟩)
                go_ret
                exact ⟨rfl, bthen HB.out hb2⟩
              · have q6 : (t == t2) = false := beq_eq_false_iff_ne.2 h6
                rw [decide_eq_false h6, Bool.false_and]
                clear h6
                go_enter Tryz.func50, Tryz.ntmps50
                go_wp2_with fail
                go_ret
                exact ⟨rfl, HB.out⟩
            · have q5 : (p == p2) = false := beq_eq_false_iff_ne.2 h5
              rw [decide_eq_false h5, Bool.false_and]
              clear h5
              go_enter Tryz.func50, Tryz.ntmps50
              go_wp2_with fail
              go_ret
              exact ⟨rfl, HB.out⟩
          · have q4 : (f == f2) = false := beq_eq_false_iff_ne.2 h4
            rw [decide_eq_false h4, Bool.false_and]
            clear h4
            go_enter Tryz.func50, Tryz.ntmps50
            go_wp2_with fail
            go_ret
            exact ⟨rfl, HB.out⟩
        · have q3 : (l == l2) = false := beq_eq_false_iff_ne.2 h3
          rw [decide_eq_false h3, Bool.false_and]
          clear h3
          go_enter Tryz.func50, Tryz.ntmps50
          go_wp2_with fail
          go_ret
          exact ⟨rfl, HB.out⟩
      · have q2 : (k == k2) = false := beq_eq_false_iff_ne.2 h2
        rw [decide_eq_false h2, Bool.false_and]
        clear h2
        go_enter Tryz.func50, Tryz.ntmps50
        go_wp2_with fail
        go_ret
        exact ⟨rfl, HB.out⟩
    · have q1 : (m.toList == m2.toList) = false := by rw [name_eqR]; exact decide_eq_false h1
      rw [decide_eq_false h1, Bool.false_and]
      clear h1
      go_enter Tryz.func50, Tryz.ntmps50
      go_wp2_with fail
      go_ret
      exact ⟨rfl, HB.out⟩
  · have q0 : (n.toList == n2.toList) = false := by rw [name_eqR]; exact decide_eq_false h0
    rw [decide_eq_false h0, Bool.false_and]
    clear h0
    go_enter Tryz.func50, Tryz.ntmps50
    go_wp2_with fail
    go_ret
    exact ⟨rfl, HB.out⟩
end Go.Proofs.YtmhekhilgllciaaGreat
/- slices.EqualFunc of rules and of inhibits. -/
namespace Go.Proofs.YtmhekhilgllciaaGreat
open Go.RowKit

theorem rowsPm {A V : Type} (pr : A → V) (xs ys : List A) (hl : xs.length = ys.length) : ∃ J, J ≤ xs.length ∧ (∀ k (h : k < xs.length) (h' : k < ys.length), k < J → pr xs[k] = pr ys[k]) ∧ (J = xs.length ∧ xs.map pr = ys.map pr ∨ ∃ (h : J < xs.length) (h' : J < ys.length), pr xs[J] ≠ pr ys[J] ∧ xs.map pr ≠ ys.map pr) := by
  obtain ⟨J, h1, h2, h3⟩ := rowsP (xs.map pr) (ys.map pr) (by simpa using hl)
  refine ⟨J, by simpa using h1, fun k h h' hk => ?_, ?_⟩
  · have := h2 k (by simpa using h) (by simpa using h') hk
    simpa using this
  · rcases h3 with ⟨e1, e2⟩ | ⟨g1, g2, g3, g4⟩
    · exact .inl ⟨by simpa using e1, e2⟩
    · exact .inr ⟨by simpa using g1, by simpa using g2, by simpa using g3, g4⟩
/-- an inhibit without the places -/
def InA.val (x : InA) : List Mat × List Mat × List ByteArray := (x.s, x.t, x.e)
theorem likeI_val (x y : InA) : eqB (likeI x y) = eqB (x.val = y.val) := by
  congr 1
  simp [likeI, InA.val]
theorem likeR_eq (r s : Rul) : likeR r s = eqB (r = s) := by
  by_cases h : r = s
  · rw [eqB_yes h, (likeR_iff r s).2 h]
  · rw [eqB_no h]
    cases e : likeR r s with
    | false => rfl
    | true => exact absurd ((likeR_iff r s).1 e) h
set_option maxHeartbeats 6400000 in
set_option maxRecDepth 100000 in
theorem eqRowR_any (ma mb : Option Addr) (ca cb : Nat) (ms ns : List RuA) (w : World) (h : HasRules w ma ca ms) (h' : HasRules w mb cb ns) :
    Calls Tryz.prog 49 #[.slice ma ms.length ca, .slice mb ns.length cb, .func (.func 50) #[] #[]] w (BoolB (eqB (ms.map RuA.r = ns.map RuA.r)) w) := by
  obtain ⟨R, hR⟩ : ∃ R, eqB (ms.map RuA.r = ns.map RuA.r) = R := ⟨_, rfl⟩
  rw [hR]
  have HR := Lib.hid hR
  have HPL := Lib.hid h
  have HPP := Lib.hid h'
  obtain ⟨hic1, hic2, _, _⟩ := h
  obtain ⟨hjc1, hjc2, _, _⟩ := h'
  unfold maxLen at hic2 hjc2
  clear hR
  go_enter Tryz.func49, Tryz.ntmps49
  by_cases hl : ms.length = ns.length
  case neg =>
    obtain rfl : R = false := by rw [← HR.out]; exact eqB_no (fun e => hl (by have := congrArg List.length e; simpa using this))
    have f4 := natNeR hl
    clear hl
    go_wp2_with fail
    go_ret
    exact ⟨rfl, Below.refl _ _⟩
  have f4 := natEqR hl
  obtain ⟨I, hI, hgood, hend⟩ := rowsPm RuA.r ms ns hl
  have HGI := Lib.hid hgood
  have HEI := Lib.hid hend
  have HIL := Lib.hid hl
  clear hgood hend hl
  go_wp2_with fail
  go_loopg [17, 7, 8, 9] ms.length (fun gg iv _ _ _ wr => ∃ k : Nat, k + gg = ms.length ∧ k ≤ I ∧ iv = .int .i64 k ∧ Below w.heap.size w wr)
  case atStart => exact ⟨0, by omega, Nat.zero_le _, rfl, Below.refl _ _⟩
  case round =>
    clear f4
    obtain ⟨k, hkg, hkI, rfl, hbr⟩ := hrel
    cases gk with
    | zero =>
      obtain rfl : k = ms.length := by omega
      obtain rfl : R = true := by
        rcases HEI.out with ⟨_, e⟩ | ⟨h1, _, _, _⟩
        · rw [← HR.out]
          exact eqB_yes e
        · omega
      go_wp2_with fail
      go_ret
      exact ⟨rfl, hbr⟩
    | succ gg =>
      have hkl : k < ms.length := by omega
      have hkm : k < ns.length := by have := HIL.out; omega
      obtain ⟨b1, o1, rfl, _, hg1⟩ := HPL.out.place k hkl
      obtain ⟨b2, o2, rfl, _, hg2⟩ := HPP.out.place k hkm
      have gs := HPL.out.2.2.1 ms[k] (List.getElem_mem _)
      have ks := HPP.out.2.2.1 ns[k] (List.getElem_mem _)
      obtain ⟨m, hmk⟩ : ∃ m, ms[k] = m := ⟨_, rfl⟩
      obtain ⟨n, hnk⟩ : ∃ n, ns[k] = n := ⟨_, rfl⟩
      rw [hmk] at hg1 gs
      rw [hnk] at hg2 ks
      have hb1 := balR (o := .cells #[.string m.r.name, .string m.r.metric, .int .i64 m.r.how, .int .i64 m.r.limit, .int .i64 m.r.fr, .int .i64 m.r.keep, .int .i64 m.r.tries, .slice m.a m.r.labels.length m.c] 45) (Below.refl wr.heap.size wr)
      have hb2 := balR (o := .cells #[.string n.r.name, .string n.r.metric, .int .i64 n.r.how, .int .i64 n.r.limit, .int .i64 n.r.fr, .int .i64 n.r.keep, .int .i64 n.r.tries, .slice n.a n.r.labels.length n.c] 45) hb1
      have e0 := cellL hbr (hg1 0 _ rfl)
      have e1 := cellL hbr (hg1 1 _ rfl)
      have e2 := cellL hbr (hg1 2 _ rfl)
      have e3 := cellL hbr (hg1 3 _ rfl)
      have e4 := cellL hbr (hg1 4 _ rfl)
      have e5 := cellL hbr (hg1 5 _ rfl)
      have e6 := cellL hbr (hg1 6 _ rfl)
      have e7 := cellL hbr (hg1 7 _ rfl)
      have f0 := cellL (bthen hbr hb1) (hg2 0 _ rfl)
      have f1 := cellL (bthen hbr hb1) (hg2 1 _ rfl)
      have f2 := cellL (bthen hbr hb1) (hg2 2 _ rfl)
      have f3 := cellL (bthen hbr hb1) (hg2 3 _ rfl)
      have f4 := cellL (bthen hbr hb1) (hg2 4 _ rfl)
      have f5 := cellL (bthen hbr hb1) (hg2 5 _ rfl)
      have f6 := cellL (bthen hbr hb1) (hg2 6 _ rfl)
      have f7 := cellL (bthen hbr hb1) (hg2 7 _ rfl)
      rw [Nat.add_zero] at e0 f0
      have hA := (Blk.new wr 45 #[.string m.r.name, .string m.r.metric, .int .i64 m.r.how, .int .i64 m.r.limit, .int .i64 m.r.fr, .int .i64 m.r.keep, .int .i64 m.r.tries, .slice m.a m.r.labels.length m.c]).alloc (.cells #[.string n.r.name, .string n.r.metric, .int .i64 n.r.how, .int .i64 n.r.limit, .int .i64 n.r.fr, .int .i64 n.r.keep, .int .i64 n.r.tries, .slice n.a n.r.labels.length n.c] 45)
      have hB := nbR wr (.cells #[.string m.r.name, .string m.r.metric, .int .i64 m.r.how, .int .i64 m.r.limit, .int .i64 m.r.fr, .int .i64 m.r.keep, .int .i64 m.r.tries, .slice m.a m.r.labels.length m.c] 45) #[.string n.r.name, .string n.r.metric, .int .i64 n.r.how, .int .i64 n.r.limit, .int .i64 n.r.fr, .int .i64 n.r.keep, .int .i64 n.r.tries, .slice n.a n.r.labels.length n.c] 45
      have hM := rulLike_any m.r n.r m.a n.a m.c n.c ((wr.alloc (.cells #[.string m.r.name, .string m.r.metric, .int .i64 m.r.how, .int .i64 m.r.limit, .int .i64 m.r.fr, .int .i64 m.r.keep, .int .i64 m.r.tries, .slice m.a m.r.labels.length m.c] 45)).alloc (.cells #[.string n.r.name, .string n.r.metric, .int .i64 n.r.how, .int .i64 n.r.limit, .int .i64 n.r.fr, .int .i64 n.r.keep, .int .i64 n.r.tries, .slice n.a n.r.labels.length n.c] 45)) (RulAt.call gs (bthen hbr hb2)) (RulAt.call ks (bthen hbr hb2))
      rw [likeR_eq] at hM
      obtain ⟨X, hX⟩ : ∃ X, eqB (RuA.r m = RuA.r n) = X := ⟨_, rfl⟩
      rw [hX] at hM
      have HM := Lib.hid hM
      have HB2 := Lib.hid (bthen hbr hb2)
      have hrr : k = I → X = false ∧ R = false := fun e => by
        rcases HEI.out with ⟨h1, _⟩ | ⟨_, _, h3, h4⟩
        · omega
        · subst e
          rw [hmk, hnk] at h3
          exact ⟨by rw [← hX]; exact eqB_no h3, by rw [← HR.out]; exact eqB_no h4⟩
      have hgg : k ≠ I → X = true := fun e => by
        have := HGI.out k hkl hkm (by omega)
        rw [hmk, hnk] at this
        rw [← hX]; exact eqB_yes this
      obtain ⟨c0, c1, c2, c3, c4, c5, c6, c7⟩ := hA.cells8
      obtain ⟨d0, d1, d2, d3, d4, d5, d6, d7⟩ := hB.cells8
      clear hX hmk hnk hM hb1 hb2 hA hB hbr hg1 hg2 gs ks
      by_cases hkI2 : k = I
      · obtain ⟨rfl, rfl⟩ := hrr hkI2
        clear hrr hgg hkI2 hkI
        go_wp2_with (go_at_call 50; refine HM.out.mono ?_; rintro e w3 ⟨rfl, hb3⟩)
        go_ret
        exact ⟨rfl, bthen HB2.out hb3⟩
      · obtain rfl := hgg hkI2
        clear hrr hgg
        go_wp2_with (go_at_call 50; refine HM.out.mono ?_; rintro e w3 ⟨rfl, hb3⟩)
        go_roundg gg
        case measure => omega
        case rel => exact ⟨k + 1, by omega, by omega, by go_num, bthen HB2.out hb3⟩
set_option maxHeartbeats 6400000 in
set_option maxRecDepth 100000 in
theorem eqRowI_any (ma mb : Option Addr) (ca cb : Nat) (ms ns : List InA) (w : World) (h : HasInhs w ma ca ms) (h' : HasInhs w mb cb ns) :
    Calls Tryz.prog 53 #[.slice ma ms.length ca, .slice mb ns.length cb, .func (.func 22) #[] #[]] w (BoolB (eqB (ms.map InA.val = ns.map InA.val)) w) := by
  obtain ⟨R, hR⟩ : ∃ R, eqB (ms.map InA.val = ns.map InA.val) = R := ⟨_, rfl⟩
  rw [hR]
  have HR := Lib.hid hR
  have HPL := Lib.hid h
  have HPP := Lib.hid h'
  obtain ⟨hic1, hic2, _, _⟩ := h
  obtain ⟨hjc1, hjc2, _, _⟩ := h'
  unfold maxLen at hic2 hjc2
  clear hR
  go_enter Tryz.func53, Tryz.ntmps53
  by_cases hl : ms.length = ns.length
  case neg =>
    obtain rfl : R = false := by rw [← HR.out]; exact eqB_no (fun e => hl (by have := congrArg List.length e; simpa using this))
    have f4 := natNeR hl
    clear hl
    go_wp2_with fail
    go_ret
    exact ⟨rfl, Below.refl _ _⟩
  have f4 := natEqR hl
  obtain ⟨I, hI, hgood, hend⟩ := rowsPm InA.val ms ns hl
  have HGI := Lib.hid hgood
  have HEI := Lib.hid hend
  have HIL := Lib.hid hl
  clear hgood hend hl
  go_wp2_with fail
  go_loopg [17, 7, 8, 9] ms.length (fun gg iv _ _ _ wr => ∃ k : Nat, k + gg = ms.length ∧ k ≤ I ∧ iv = .int .i64 k ∧ Below w.heap.size w wr)
  case atStart => exact ⟨0, by omega, Nat.zero_le _, rfl, Below.refl _ _⟩
  case round =>
    clear f4
    obtain ⟨k, hkg, hkI, rfl, hbr⟩ := hrel
    cases gk with
    | zero =>
      obtain rfl : k = ms.length := by omega
      obtain rfl : R = true := by
        rcases HEI.out with ⟨_, e⟩ | ⟨h1, _, _, _⟩
        · rw [← HR.out]
          exact eqB_yes e
        · omega
      go_wp2_with fail
      go_ret
      exact ⟨rfl, hbr⟩
    | succ gg =>
      have hkl : k < ms.length := by omega
      have hkm : k < ns.length := by have := HIL.out; omega
      obtain ⟨b1, o1, rfl, _, hg1⟩ := HPL.out.place k hkl
      obtain ⟨b2, o2, rfl, _, hg2⟩ := HPP.out.place k hkm
      have gs := HPL.out.2.2.1 ms[k] (List.getElem_mem _)
      have ks := HPP.out.2.2.1 ns[k] (List.getElem_mem _)
      obtain ⟨m, hmk⟩ : ∃ m, ms[k] = m := ⟨_, rfl⟩
      obtain ⟨n, hnk⟩ : ∃ n, ns[k] = n := ⟨_, rfl⟩
      rw [hmk] at hg1 gs
      rw [hnk] at hg2 ks
      have hb1 := balR (o := .cells #[.slice m.sa m.s.length m.sc, .slice m.ta m.t.length m.tc, .slice m.ea m.e.length m.ec] 51) (Below.refl wr.heap.size wr)
      have hb2 := balR (o := .cells #[.slice n.sa n.s.length n.sc, .slice n.ta n.t.length n.tc, .slice n.ea n.e.length n.ec] 51) hb1
      have e0 := cellL hbr (hg1 0 _ rfl)
      have e1 := cellL hbr (hg1 1 _ rfl)
      have e2 := cellL hbr (hg1 2 _ rfl)
      have f0 := cellL (bthen hbr hb1) (hg2 0 _ rfl)
      have f1 := cellL (bthen hbr hb1) (hg2 1 _ rfl)
      have f2 := cellL (bthen hbr hb1) (hg2 2 _ rfl)
      rw [Nat.add_zero] at e0 f0
      have hA := (Blk.new wr 51 #[.slice m.sa m.s.length m.sc, .slice m.ta m.t.length m.tc, .slice m.ea m.e.length m.ec]).alloc (.cells #[.slice n.sa n.s.length n.sc, .slice n.ta n.t.length n.tc, .slice n.ea n.e.length n.ec] 51)
      have hB := nbR wr (.cells #[.slice m.sa m.s.length m.sc, .slice m.ta m.t.length m.tc, .slice m.ea m.e.length m.ec] 51) #[.slice n.sa n.s.length n.sc, .slice n.ta n.t.length n.tc, .slice n.ea n.e.length n.ec] 51
      have hM := likeInh_any m n ((wr.alloc (.cells #[.slice m.sa m.s.length m.sc, .slice m.ta m.t.length m.tc, .slice m.ea m.e.length m.ec] 51)).alloc (.cells #[.slice n.sa n.s.length n.sc, .slice n.ta n.t.length n.tc, .slice n.ea n.e.length n.ec] 51)) (InA.ok.call gs (bthen hbr hb2)) (InA.ok.call ks (bthen hbr hb2))
      rw [likeI_val] at hM
      obtain ⟨X, hX⟩ : ∃ X, eqB (InA.val m = InA.val n) = X := ⟨_, rfl⟩
      rw [hX] at hM
      have HM := Lib.hid hM
      have HB2 := Lib.hid (bthen hbr hb2)
      have hrr : k = I → X = false ∧ R = false := fun e => by
        rcases HEI.out with ⟨h1, _⟩ | ⟨_, _, h3, h4⟩
        · omega
        · subst e
          rw [hmk, hnk] at h3
          exact ⟨by rw [← hX]; exact eqB_no h3, by rw [← HR.out]; exact eqB_no h4⟩
      have hgg : k ≠ I → X = true := fun e => by
        have := HGI.out k hkl hkm (by omega)
        rw [hmk, hnk] at this
        rw [← hX]; exact eqB_yes this
      obtain ⟨c0, c1, c2⟩ := hA.cells3
      obtain ⟨d0, d1, d2⟩ := hB.cells3
      clear hX hmk hnk hM hb1 hb2 hA hB hbr hg1 hg2 gs ks
      by_cases hkI2 : k = I
      · obtain ⟨rfl, rfl⟩ := hrr hkI2
        clear hrr hgg hkI2 hkI
        go_wp2_with (go_at_call 22; refine HM.out.mono ?_; rintro e w3 ⟨rfl, hb3⟩)
        go_ret
        exact ⟨rfl, bthen HB2.out hb3⟩
      · obtain rfl := hgg hkI2
        clear hrr hgg
        go_wp2_with (go_at_call 22; refine HM.out.mono ?_; rintro e w3 ⟨rfl, hb3⟩)
        go_roundg gg
        case measure => omega
        case rel => exact ⟨k + 1, by omega, by omega, by go_num, bthen HB2.out hb3⟩
end Go.Proofs.YtmhekhilgllciaaGreat
/- slices.Equal of hours. -/
namespace Go.Proofs.YtmhekhilgllciaaGreat
open Go.RowKit

theorem hr_eq (x y : HrA) : eqB (x = y) = (decide (x.n.toList = y.n.toList) && (decide (x.d = y.d) && (decide (x.f = y.f) && decide (x.t = y.t)))) := by
  obtain ⟨n, d, f, t⟩ := x
  obtain ⟨n', d', f', t'⟩ := y
  by_cases h : (⟨n, d, f, t⟩ : HrA) = ⟨n', d', f', t'⟩
  · rw [eqB_yes h]
    cases h
    simp
  · rw [eqB_no h]
    symm
    rw [Bool.eq_false_iff]
    intro e
    simp only [Bool.and_eq_true, decide_eq_true_eq] at e
    obtain ⟨e1, rfl, rfl, rfl⟩ := e
    obtain rfl : n = n' := of_decide_eq_true ((toList_eq_iff n n').symm.trans (beq_iff_eq.2 e1))
    exact h rfl
set_option maxHeartbeats 1600000 in
theorem run_neq_hrs (x y : HrA) (w : World) : (binOp .neq 57 (.agg #[.string x.n, .int .i64 x.d, .int .i64 x.f, .int .i64 x.t]) (.agg #[.string y.n, .int .i64 y.d, .int .i64 y.f, .int .i64 y.t])).run Tryz.prog w = .ok (.bool (!eqB (x = y))) w := by
  rw [hr_eq]
  simp [go_sem]
  by_cases h1 : x.n.toList = y.n.toList <;> by_cases h2 : x.d = y.d <;> by_cases h3 : x.f = y.f <;> by_cases h4 : x.t = y.t <;> simp [h1, h2, h3, h4]
set_option maxHeartbeats 6400000 in
set_option maxRecDepth 100000 in
theorem eqRowH_any (ma mb : Option Addr) (ca cb : Nat) (ms ns : List HrA) (w : World) (h : HasHours w ma ca ms) (h' : HasHours w mb cb ns) :
    Calls Tryz.prog 54 #[.slice ma ms.length ca, .slice mb ns.length cb] w (BoolB (eqB (ms = ns)) w) := by
  obtain ⟨R, hR⟩ : ∃ R, eqB (ms = ns) = R := ⟨_, rfl⟩
  rw [hR]
  have HR := Lib.hid hR
  have HPL := Lib.hid h
  have HPP := Lib.hid h'
  obtain ⟨hic1, hic2, _, _⟩ := h
  obtain ⟨hjc1, hjc2, _, _⟩ := h'
  unfold maxLen at hic2 hjc2
  clear hR
  go_enter Tryz.func54, Tryz.ntmps54
  by_cases hl : ms.length = ns.length
  case neg =>
    obtain rfl : R = false := by rw [← HR.out]; exact eqB_no (fun e => hl (by rw [e]))
    have f4 := natNeR hl
    clear hl
    go_wp2_with fail
    go_ret
    exact ⟨rfl, Below.refl _ _⟩
  have f4 := natEqR hl
  obtain ⟨I, hI, hgood, hend⟩ := rowsP ms ns hl
  have HGI := Lib.hid hgood
  have HEI := Lib.hid hend
  have HIL := Lib.hid hl
  clear hgood hend hl
  go_wp2_with fail
  go_loopg [13, 5] ms.length (fun gg iv _ wr => ∃ k : Nat, k + gg = ms.length ∧ k ≤ I ∧ iv = .int .i64 k ∧ Below w.heap.size w wr)
  case atStart => exact ⟨0, by omega, Nat.zero_le _, rfl, Below.refl _ _⟩
  case round =>
    clear f4
    obtain ⟨k, hkg, hkI, rfl, hbr⟩ := hrel
    cases gk with
    | zero =>
      obtain rfl : k = ms.length := by omega
      obtain rfl : R = true := by
        rcases HEI.out with ⟨_, e⟩ | ⟨h1, _, _, _⟩
        · rw [← HR.out]
          exact eqB_yes e
        · omega
      go_wp2_with fail
      go_ret
      exact ⟨rfl, hbr⟩
    | succ gg =>
      have hkl : k < ms.length := by omega
      have hkm : k < ns.length := by have := HIL.out; omega
      obtain ⟨b1, o1, rfl, _, hg1⟩ := HPL.out.place k hkl
      obtain ⟨b2, o2, rfl, _, hg2⟩ := HPP.out.place k hkm
      obtain ⟨m, hmk⟩ : ∃ m, ms[k] = m := ⟨_, rfl⟩
      obtain ⟨n, hnk⟩ : ∃ n, ns[k] = n := ⟨_, rfl⟩
      rw [hmk] at hg1
      rw [hnk] at hg2
      have e0 := cellL hbr (hg1 0 _ rfl)
      have e1 := cellL hbr (hg1 1 _ rfl)
      have e2 := cellL hbr (hg1 2 _ rfl)
      have e3 := cellL hbr (hg1 3 _ rfl)
      have f0 := cellL hbr (hg2 0 _ rfl)
      have f1 := cellL hbr (hg2 1 _ rfl)
      have f2 := cellL hbr (hg2 2 _ rfl)
      have f3 := cellL hbr (hg2 3 _ rfl)
      rw [Nat.add_zero] at e0 f0
      have e0 := fun x => later_cell e0 x
      have e1 := fun x => later_cell e1 x
      have e2 := fun x => later_cell e2 x
      have e3 := fun x => later_cell e3 x
      have f0 := fun x => later_cell f0 x
      have f1 := fun x => later_cell f1 x
      have f2 := fun x => later_cell f2 x
      have f3 := fun x => later_cell f3 x
      have hne := fun W => run_neq_hrs m n W
      obtain ⟨X, hX⟩ : ∃ X, eqB (m = n) = X := ⟨_, rfl⟩
      rw [hX] at hne
      have hrr : k = I → X = false ∧ R = false := fun e => by
        rcases HEI.out with ⟨h1, _⟩ | ⟨_, _, h3, h4⟩
        · omega
        · subst e
          rw [hmk, hnk] at h3
          exact ⟨by rw [← hX]; exact eqB_no h3, by rw [← HR.out]; exact eqB_no h4⟩
      have hgg : k ≠ I → X = true := fun e => by
        have := HGI.out k hkl hkm (by omega)
        rw [hmk, hnk] at this
        rw [← hX]; exact eqB_yes this
      have HBR := Lib.hid hbr
      clear hX hmk hnk hbr hg1 hg2
      by_cases hkI2 : k = I
      · obtain ⟨rfl, rfl⟩ := hrr hkI2
        clear hrr hgg hkI2 hkI
        go_upto_region 6 with fail
        refine wp_region_later (by kernel_rfl) (by kernel_rfl) ?_
        repeat (go_big_quiet_step (fail))
        refine wpQuiet_nil ?_
        rintro _ ⟨z, rfl⟩
        have hb3 := later_below wr z
        generalize later wr z = w5 at *
        clear e0 e1 e2 e3 f0 f1 f2 f3
        go_wp2_with fail
        go_ret
        exact ⟨rfl, bthen HBR.out hb3⟩
      · obtain rfl := hgg hkI2
        clear hrr hgg
        go_upto_region 6 with fail
        refine wp_region_later (by kernel_rfl) (by kernel_rfl) ?_
        repeat (go_big_quiet_step (fail))
        refine wpQuiet_nil ?_
        rintro _ ⟨z, rfl⟩
        have hb3 := later_below wr z
        generalize later wr z = w5 at *
        clear e0 e1 e2 e3 f0 f1 f2 f3
        go_wp2_with fail
        go_roundg gg
        case measure => omega
        case rel => exact ⟨k + 1, by omega, by omega, by go_num, bthen HBR.out hb3⟩
end Go.Proofs.YtmhekhilgllciaaGreat
/- The contracts of routes.Like, of its closure, and of slices.EqualFunc around that. -/
namespace Go.Proofs.YtmhekhilgllciaaGreat
open Go.RowKit

abbrev likF (fB : Nat) : Value := .func (.func 104) #[] #[.pointer (some ⟨fB, 0, none⟩)]
/-- what the closure tells of a route that lies in w0 and any other -/
def LkR (w0 : World) (fB : Nat) (q : RtAt) : Prop := ∀ (p : RtAt) (w : World), p.ok w → Below w0.heap.size w0 w → Blk w fB 77 #[likF fB] →
  Calls Tryz.prog 104 #[.agg (tCells q), .agg (tCells p), .pointer (some ⟨fB, 0, none⟩)] w (BoolB (eqB (q.n = p.n)) w)

set_option maxHeartbeats 6400000 in
set_option maxRecDepth 100000 in
theorem eqRts_of {w0 : World} {fB : Nat} (q : RtAt) (hic : q.n.kids.length ≤ q.kc ∧ q.kc ≤ maxLen) (hpl : q.n.kids = [] ∨ ∃ b off, q.ka = some ⟨b, off, none⟩ ∧ b < w0.heap.size ∧ ∀ i (h : i < q.n.kids.length), ∃ r : RtAt, r.n = q.n.kids[i] ∧ r.lies w0 b (off + i * 9) ∧ r.ok w0 ∧ LkR w0 fB r)
    (p : RtAt) (w : World) (hp : p.ok w) (hw : Below w0.heap.size w0 w) (hf : Blk w fB 77 #[likF fB]) :
    Calls Tryz.prog 106 #[.slice q.ka q.n.kids.length q.kc, .slice p.ka p.n.kids.length p.kc, likF fB] w (BoolB (eqB (q.n.kids = p.n.kids)) w) := by
  have hjc := hp.head.2
  have hpp := hp.place
  obtain ⟨R, hR⟩ : ∃ R, eqB (q.n.kids = p.n.kids) = R := ⟨_, rfl⟩
  rw [hR]
  have HR := Lib.hid hR
  have HPL := Lib.hid hpl
  have HPP := Lib.hid hpp
  have HW := Lib.hid hw
  have HF := Lib.hid hf
  unfold maxLen at hic hjc
  obtain ⟨hic1, hic2⟩ := hic
  obtain ⟨hjc1, hjc2⟩ := hjc
  clear hpl hpp hR hp hw hf
  obtain ⟨n, ma, mc, ba, bc, ua, uc, ka, kc⟩ := q
  obtain ⟨m, ma2, mc2, ba2, bc2, ua2, uc2, ka2, kc2⟩ := p
  simp only at *
  simp only [likF]
  go_enter Tryz.func106, Tryz.ntmps106
  by_cases hl : n.kids.length = m.kids.length
  case neg =>
    obtain rfl : R = false := by rw [← HR.out]; exact eqB_no (fun e => hl (by rw [e]))
    have f4 := natNeR hl
    clear hl
    go_wp2_with fail
    go_ret
    exact ⟨rfl, Below.refl _ _⟩
  have f4 := natEqR hl
  obtain ⟨I, hI, hgood, hend⟩ := rowsP n.kids m.kids hl
  have HGI := Lib.hid hgood
  have HEI := Lib.hid hend
  have HIL := Lib.hid hl
  clear hgood hend hl
  go_wp2_with fail
  go_loopg [17, 7, 8, 9] n.kids.length (fun gg iv _ _ _ wr => ∃ k : Nat, k + gg = n.kids.length ∧ k ≤ I ∧ iv = .int .i64 k ∧ Below w.heap.size w wr)
  case atStart => exact ⟨0, by omega, Nat.zero_le _, rfl, Below.refl _ _⟩
  case round =>
    clear f4
    obtain ⟨k, hkg, hkI, rfl, hbr⟩ := hrel
    cases gk with
    | zero =>
      obtain rfl : k = n.kids.length := by omega
      obtain rfl : R = true := by
        rcases HEI.out with ⟨_, e⟩ | ⟨h1, _, _, _⟩
        · rw [← HR.out]
          exact eqB_yes e
        · omega
      go_wp2_with fail
      go_ret
      exact ⟨rfl, hbr⟩
    | succ gg =>
      have hkl : k < n.kids.length := by omega
      have hkm : k < m.kids.length := by have := HIL.out; omega
      obtain ⟨b1, o1, rfl, r, hrn, hrl, _, hrM⟩ : ∃ b off, ka = some ⟨b, off, none⟩ ∧ ∃ r : RtAt, r.n = n.kids[k] ∧ r.lies w0 b (off + k * 9) ∧ r.ok w0 ∧ LkR w0 fB r := by
        rcases HPL.out with h | ⟨b, off, h1, _, h3⟩
        · rw [h] at hkl; simp at hkl
        · exact ⟨b, off, h1, h3 k hkl⟩
      obtain ⟨b2, o2, rfl, s, hsn, hsl, hso⟩ : ∃ b off, ka2 = some ⟨b, off, none⟩ ∧ ∃ r : RtAt, r.n = m.kids[k] ∧ r.lies w b (off + k * 9) ∧ r.ok w := by
        rcases HPP.out with h | ⟨b, off, h1, _, h3⟩
        · rw [h] at hkm; simp at hkm
        · exact ⟨b, off, h1, h3 k hkm⟩
      obtain ⟨x0, x1, x2, x3, x4, x5, x6, x7, x8⟩ := hrl.call (bthen HW.out hbr)
      have hb1 := balR (o := .cells (tCells r) 27) (Below.refl wr.heap.size wr)
      obtain ⟨y0, y1, y2, y3, y4, y5, y6, y7, y8⟩ := hsl.call (bthen hbr hb1)
      have hb2 := balR (o := .cells (tCells s) 27) hb1
      have hA := (Blk.new wr 27 (tCells r)).alloc (.cells (tCells s) 27)
      have hB := nbR wr (.cells (tCells r) 27) (tCells s) 27
      have hM := hrM s ((wr.alloc (.cells (tCells r) 27)).alloc (.cells (tCells s) 27)) (hso.call (bthen hbr hb2)) (bthen (bthen HW.out hbr) hb2) (HF.out.call (bthen hbr hb2))
      obtain ⟨X, hX⟩ : ∃ X, eqB (r.n = s.n) = X := ⟨_, rfl⟩
      rw [hX] at hM
      rw [hrn, hsn] at hX
      have HM := Lib.hid hM
      have HB2 := Lib.hid (bthen hbr hb2)
      have hrr : k = I → X = false ∧ R = false := fun e => by
        rcases HEI.out with ⟨h1, _⟩ | ⟨_, _, h3, h4⟩
        · omega
        · subst e
          exact ⟨by rw [← hX]; exact eqB_no h3, by rw [← HR.out]; exact eqB_no h4⟩
      have hgg : k ≠ I → X = true := fun e => by rw [← hX]; exact eqB_yes (HGI.out k hkl hkm (by omega))
      obtain ⟨c0, c1, c2, c3, c4, c5, c6, c7, c8⟩ := hA.cells9
      obtain ⟨d0, d1, d2, d3, d4, d5, d6, d7, d8⟩ := hB.cells9
      clear hX hrn hsn hrl hsl hso hrM hM hb1 hb2 hA hB hbr
      obtain ⟨r, ra, rc, rba, rbc, rua, ruc, qa, qc⟩ := r
      obtain ⟨s, sa, sc, sba, sbc, sua, suc, pa, pc⟩ := s
      simp only [tCells] at *
      by_cases hkI2 : k = I
      · obtain ⟨rfl, rfl⟩ := hrr hkI2
        clear hrr hgg hkI2 hkI
        go_wp2_with (go_at_call 104; refine HM.out.mono ?_; rintro e w3 ⟨rfl, hb3⟩)
        go_ret
        exact ⟨rfl, bthen HB2.out hb3⟩
      · obtain rfl := hgg hkI2
        clear hrr hgg
        go_wp2_with (go_at_call 104; refine HM.out.mono ?_; rintro e w3 ⟨rfl, hb3⟩)
        go_roundg gg
        case measure => omega
        case rel => exact ⟨k + 1, by omega, by omega, by go_num, bthen HB2.out hb3⟩

set_option maxHeartbeats 6400000 in
set_option maxRecDepth 100000 in
theorem like_step {w0 : World} {fB : Nat} (q : RtAt) (hqo : q.own w0) (hkc : q.n.kids.length ≤ q.kc ∧ q.kc ≤ maxLen) (hpl : q.n.kids = [] ∨ ∃ b off, q.ka = some ⟨b, off, none⟩ ∧ b < w0.heap.size ∧ ∀ i (h : i < q.n.kids.length), ∃ r : RtAt, r.n = q.n.kids[i] ∧ r.lies w0 b (off + i * 9) ∧ r.ok w0 ∧ LkR w0 fB r) : LkR w0 fB q := by
  intro p w hp hw hf
  have hb := balR (o := .cells (tCells q) 27) (Below.refl w.heap.size w)
  have hb2 := balR (o := .cells (tCells p) 27) hb
  have hB := (Blk.new w 27 (tCells q)).alloc (.cells (tCells p) 27)
  have hP := nbR w (.cells (tCells q) 27) (tCells p) 27
  have hA := fun W (hW : Below w.heap.size w W) => likeAlone_any q p W ((hqo.call hw).call hW) (hp.own.call hW)
  have hE := fun W (hW : Below w.heap.size w W) => eqRts_of q hkc hpl p W (hp.call hW) (bthen hw hW) (hf.call hW)
  have hR : eqB (q.n = p.n) = (eqB (aloneB q.n p.n) && eqB (q.n.kids = p.n.kids)) := by
    rw [← eqB_and]
    congr 1
    exact propext (alone_ext _ _)
  rw [hR]
  generalize eqB (aloneB q.n p.n) = B1 at *
  generalize eqB (q.n.kids = p.n.kids) = B2 at *
  have HA := Lib.hid hA
  have HE := Lib.hid hE
  have HF := Lib.hid (hf.call hb2)
  have HB := Lib.hid hb2
  clear hA hE hb hb2 hp hw hf hqo hpl hkc hR
  obtain ⟨n, m1a, m1c, b1a, b1c, u1a, u1c, k1a, k1c⟩ := q
  obtain ⟨m, m2a, m2c, b2a, b2c, u2a, u2c, k2a, k2c⟩ := p
  simp only [tCells, likF] at *
  go_enter Tryz.func104, Tryz.ntmps104
  go_upto_region 1 with fail
  obtain ⟨g, hg⟩ : ∃ g, w.heap.size = g := ⟨_, rfl⟩
  generalize (w.alloc (.cells #[.string n.recv, .slice m1a n.ms.length m1c, .slice b1a n.bys.length b1c, .int .i64 n.wait, .int .i64 n.every, .int .i64 n.rep, .slice u1a n.mute.length u1c, .bool n.on, .slice k1a n.kids.length k1c] 27)).alloc (.cells #[.string m.recv, .slice m2a m.ms.length m2c, .slice b2a m.bys.length b2c, .int .i64 m.wait, .int .i64 m.every, .int .i64 m.rep, .slice u2a m.mute.length u2c, .bool m.on, .slice k2a m.kids.length k2c] 27) = wx at *
  rw [hg] at hB hP ⊢
  clear hg
  have HBQ := Lib.hid (fun W (hW : Below wx.heap.size wx W) => (hB.call hW).cells9)
  have HBP := Lib.hid (fun W (hW : Below wx.heap.size wx W) => (hP.call hW).cells9)
  obtain ⟨c0, c1, c2, c3, c4, c5, c6, c7, c8⟩ := hB.cells9
  obtain ⟨d0, d1, d2, d3, d4, d5, d6, d7, d8⟩ := hP.cells9
  clear hB hP
  have HF2 : Hid (∀ W, Below wx.heap.size wx W → W.cell? ⟨fB, 0, none⟩ = some (.func (.func 104) #[] #[.pointer (some ⟨fB, 0, none⟩)])) := Lib.hid (fun W hW => (HF.out.call hW).cell 0)
  cases B1 with
  | false =>
    go_wp2_with (go_at_call 105; refine (HA.out _ HB.out).mono ?_; rintro e w2 ⟨rfl, hb2⟩)
    go_ret
    exact ⟨rfl, bthen HB.out hb2⟩
  | true =>
    go_wp2_with (first
      | (go_at_call 105; refine (HA.out _ HB.out).mono ?_; rintro e w2 ⟨rfl, hb2⟩; obtain ⟨x0, x1, x2, x3, x4, x5, x6, x7, x8⟩ := HBQ.out _ hb2; obtain ⟨y0, y1, y2, y3, y4, y5, y6, y7, y8⟩ := HBP.out _ hb2; have z0 := HF2.out _ hb2)
      | (go_at_call 106; refine (HE.out _ (bthen HB.out hb2)).mono ?_; rintro e w3 ⟨rfl, hb3⟩))
    go_ret
    exact ⟨rfl, bthen HB.out (bthen hb2 hb3)⟩
theorem likeIn_any {w0 : World} {fB : Nat} {q : RtAt} (h : q.ok w0) : LkR w0 fB q := by
  induction h with
  | flat q h0 h1 => exact like_step q h0.1 h0.2 (.inl h1)
  | row q b off R h0 h1 h2 h3 h4 h5 ih => exact like_step q h0.1 h0.2 (.inr ⟨b, off, h1, h2, fun i hi => ⟨R i, h3 i hi, h4 i hi, h5 i hi, ih i hi⟩⟩)
set_option maxHeartbeats 6400000 in
set_option maxRecDepth 100000 in
theorem routesLike_any (q p : RtAt) (w : World) (hq : q.ok w) (hp : p.ok w) : Calls Tryz.prog 51 #[.agg (tCells q), .agg (tCells p)] w (BoolB (eqB (q.n = p.n)) w) := by
  have hb := balR (o := .cells (tCells q) 27) (Below.refl w.heap.size w)
  have hb2 := balR (o := .cells (tCells p) 27) hb
  have hB := (Blk.new w 27 (tCells q)).alloc (.cells (tCells p) 27)
  have hP := nbR w (.cells (tCells q) 27) (tCells p) 27
  generalize hw2 : (w.alloc (.cells (tCells q) 27)).alloc (.cells (tCells p) 27) = w2 at *
  have hb3 := balR (o := .cells #[likF (w2.heap.size)] 77) hb2
  have hF := Blk.new w2 77 #[likF (w2.heap.size)]
  have hB3 := hB.alloc (.cells #[likF (w2.heap.size)] 77)
  have hP3 := hP.alloc (.cells #[likF (w2.heap.size)] 77)
  have hL := likeIn_any hq p _ (hp.call hb3) hb3 hF
  have hf1 := hF.cells1
  have HL := Lib.hid hL
  have HB := Lib.hid hb3
  clear hb hb2 hb3 hB hP hF hL hq hp
  generalize eqB (q.n = p.n) = R at *
  obtain ⟨n, m1a, m1c, b1a, b1c, u1a, u1c, k1a, k1c⟩ := q
  obtain ⟨m, m2a, m2c, b2a, b2c, u2a, u2c, k2a, k2c⟩ := p
  simp only [tCells, likF] at *
  go_enter Tryz.func51, Tryz.ntmps51
  go_upto_region 1 with fail
  clear hw2
  go_upto_region 3 with fail
  generalize w2.alloc (.cells #[.func (.func 104) #[] #[.pointer (some ⟨w2.heap.size, 0, none⟩)]] 77) = wx at *
  obtain ⟨c0, c1, c2, c3, c4, c5, c6, c7, c8⟩ := hB3.cells9
  obtain ⟨d0, d1, d2, d3, d4, d5, d6, d7, d8⟩ := hP3.cells9
  go_wp2_with (go_at_call 104; refine HL.out.mono ?_; rintro e w3 ⟨rfl, hb3⟩)
  go_ret
  exact ⟨rfl, bthen HB.out hb3⟩
end Go.Proofs.YtmhekhilgllciaaGreat
