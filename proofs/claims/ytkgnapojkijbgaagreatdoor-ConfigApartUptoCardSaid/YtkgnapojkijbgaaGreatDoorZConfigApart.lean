/- ConfigApart: two configurations that may be have one text just if they have one normal form. The condition: the arguments hold together at most 1048576 values and letters. The card: the tables that the row lists hold what the text of the program lays. -/
import Derived.Test.YtkgnapojkijbgaaGreatDoorLabR0
import Derived.Test.YtkgnapojkijbgaaGreatDoorLabN
import Derived.Test.YtkgnapojkijbgaaGreatDoorLabU0
import Derived.Test.YtkgnapojkijbgaaGreatDoorRulB
import Derived.Test.YtkgnapojkijbgaaGreatDoorMg3
import Derived.Test.YtkgnapojkijbgaaGreatDoorLater
import Derived.Test.YtkgnapojkijbgaaGreatDoorMg2
import Derived.Test.YtkgnapojkijbgaaGreatDoorMg1
import Derived.Test.YtkgnapojkijbgaaGreatDoorMatD0
import Derived.Deep.CutBlock
import Derived.Deep.RegionHeld3
import Derived.Test.YtkgnapojkijbgaaGreatDoorMg5
import Derived.Test.YtkgnapojkijbgaaGreatDoorMg6
import Derived.ShutString
import Derived.ChangeOld
import Derived.Below
/- What is kept of labels. -/
namespace Go.Proofs.YtkgnapojkijbgaaGreatDoor
open Go.RowKit
open Go.WideShapes (bytes_inj)


def keepL (ls : List Lab) (ns : List ByteArray) : List Lab := ls.filter fun l => inB l.1 ns
theorem keepL_take (ls : List Lab) (ns : List ByteArray) (k : Nat) (h : k < ls.length) : keepL (ls.take (k + 1)) ns = keepL (ls.take k) ns ++ (if inB ls[k].1 ns = true then [ls[k]] else []) := by
  rw [List.take_succ_eq_append_getElem h, keepL, List.filter_append]
  congr 1
  by_cases hq : inB ls[k].1 ns = true <;> simp [hq]
theorem keepL_sub (ls : List Lab) (ns : List ByteArray) (P : Lab → Prop) (h : ∀ l ∈ ls, P l) : ∀ l ∈ keepL ls ns, P l := fun l hl => h l (List.mem_filter.1 hl).1
theorem keepL_len (ls : List Lab) (ns : List ByteArray) : (keepL ls ns).length ≤ ls.length := List.length_filter_le _ _
def LabsE (ls : List Lab) (n : Int) (w : World) (e : Ending) (w' : World) : Prop := ∃ a c, e = .returned (.tuple #[.slice a ls.length c, .int .i64 n]) ∧ HasLabs w' a c ls ∧ Below w.heap.size w w'
theorem labsE_nil {n : Int} {w w' : World} (hb : Below w.heap.size w w') : LabsE [] n w (.returned (.tuple #[.slice none 0 0, .int .i64 n])) w' := ⟨none, 0, rfl, HasLabs.nil _ _ _ (by unfold maxLen; omega), hb⟩

def keepP (ls : List Lab) (ns : List ByteArray) : List Lab × Int := if rightC ls = true then (keepL ls ns, 0) else ([], 1)
end Go.Proofs.YtkgnapojkijbgaaGreatDoor
/- The contract of the library's Equal of rows of labels. -/
namespace Go.Proofs.YtkgnapojkijbgaaGreatDoor
open Go.RowKit
open Go.WideShapes (bytes_inj)

set_option maxHeartbeats 1600000 in
set_option maxRecDepth 100000 in
theorem equalL_some (b off c b' off' c' : Nat) (ls ms : List Lab) (w : World) (hlc : ls.length ≤ c) (hcm : c ≤ maxLen) (hlc' : ms.length ≤ c') (_hcm' : c' ≤ maxLen) (_hb : b < w.heap.size) (_hb' : b' < w.heap.size)
    (hcell : ∀ i (h : i < ls.length), w.cell? ⟨b, off + i * 2, none⟩ = some (.string ls[i].1) ∧ w.cell? ⟨b, off + i * 2 + 1, none⟩ = some (.string ls[i].2))
    (hcell' : ∀ i (h : i < ms.length), w.cell? ⟨b', off' + i * 2, none⟩ = some (.string ms[i].1) ∧ w.cell? ⟨b', off' + i * 2 + 1, none⟩ = some (.string ms[i].2)) (hl : ls.length = ms.length) :
    Calls Tryz.prog 138 #[.slice (some ⟨b, off, none⟩) ls.length c, .slice (some ⟨b', off', none⟩) ms.length c'] w (BoolB (decide (ls = ms)) w) := by
  unfold maxLen at hcm _hcm'
  have HC := Lib.hid hcell
  have HC' := Lib.hid hcell'
  have hlen : ((ls.length : Int) != (ms.length : Int)) = false := by rw [hl]; simp
  have hlb : ms.length ≤ ls.length := by omega
  have hlb' : ls.length ≤ ms.length := by omega
  have HL := Lib.hid hl
  clear hcell hcell' hl
  go_enter Tryz.func138, Tryz.ntmps138
  go_wp2
  go_loopw [13] (fun i wr => ∃ k : Nat, k ≤ ls.length ∧ i = .int .i64 k ∧ ls.take k = ms.take k ∧ Below w.heap.size w wr) (fun i _ => ls.length - (intOf i).toNat)
  case atStart => exact ⟨0, Nat.zero_le _, rfl, rfl, Below.refl _ _⟩
  case round =>
    obtain ⟨k, hk, rfl, he, hbl⟩ := hrel
    have HE := Lib.hid he
    clear he
    by_cases hkl : k < ls.length
    · have hkm : k < ms.length := by omega
      have hc1 := cellLater hbl (HC.out k hkl).1
      have hc2 := cellLater hbl (HC.out k hkl).2
      have hd1 := cellLater hbl (HC'.out k hkm).1
      have hd2 := cellLater hbl (HC'.out k hkm).2
      have hne := fun W => run_neq_lab ls[k] (ms[k]'hkm) W
      by_cases hq : ls[k] = ms[k]'hkm
      · have htk : ls.take (k + 1) = ms.take (k + 1) := by
          rw [List.take_succ_eq_append_getElem hkl, List.take_succ_eq_append_getElem hkm, HE.out, hq]
        have HT := Lib.hid htk
        rw [decide_eq_true hq] at hne
        clear htk hq
        go_wp2_with fail
        go_quiet (fail)
        go_wp2
        go_roundw
        case rel => exact ⟨k + 1, by omega, by go_num, HT.out, below_drewN hbl _⟩
        case measure => simp [intOf]; omega
      · have hf : decide (ls = ms) = false := by
          rw [decide_eq_false_iff_not]
          intro e
          subst e
          exact hq rfl
        have HF := Lib.hid hf
        rw [decide_eq_false hq] at hne
        clear hq hf
        go_wp2_with fail
        go_quiet (fail)
        go_wp2
        go_ret
        rw [HF.out]
        exact ⟨rfl, below_drewN hbl _⟩
    · have ht : decide (ls = ms) = true := by
        have := HE.out
        rw [List.take_of_length_le (by omega), List.take_of_length_le (by omega)] at this
        rw [decide_eq_true_iff]; exact this
      go_wp2
      go_ret
      rw [ht]
      exact ⟨rfl, hbl⟩

theorem equalL_any (a a' : Option Addr) (c c' : Nat) (ls ms : List Lab) (w : World) (h : HasLabs w a c ls) (h' : HasLabs w a' c' ms) :
    Calls Tryz.prog 138 #[.slice a ls.length c, .slice a' ms.length c'] w (BoolB (decide (ls = ms)) w) := by
  obtain ⟨h1, h2, h3, h4⟩ := h
  obtain ⟨g1, g2, g3, g4⟩ := h'
  unfold maxLen at h2 g2
  by_cases hl : ls.length = ms.length
  · rcases h4 with rfl | ⟨b, off, rfl, hb, hc⟩
    · obtain rfl : ms = [] := List.eq_nil_of_length_eq_zero hl.symm
      go_enter Tryz.func138, Tryz.ntmps138
      go_wp2
      refine wp_loop_rounds 1 ?_
      rw [rounds_succ]
      go_wp2
      go_ret
      exact ⟨rfl, Below.refl _ _⟩
    · rcases g4 with rfl | ⟨b', off', rfl, hb', hc'⟩
      · obtain rfl : ls = [] := List.eq_nil_of_length_eq_zero hl
        go_enter Tryz.func138, Tryz.ntmps138
        go_wp2
        refine wp_loop_rounds 1 ?_
        rw [rounds_succ]
        go_wp2
        go_ret
        exact ⟨rfl, Below.refl _ _⟩
      · exact equalL_some b off c b' off' c' ls ms w h1 (by unfold maxLen; omega) g1 (by unfold maxLen; omega) hb hb' hc hc' hl
  · have hlen : ((ls.length : Int) != (ms.length : Int)) = true := by rw [bne_iff_ne]; omega
    have hf : decide (ls = ms) = false := by
      rw [decide_eq_false_iff_not]
      intro e
      exact hl (by rw [e])
    rw [hf]
    clear hl hf h3 h4 g3 g4
    go_enter Tryz.func138, Tryz.ntmps138
    go_wp2
    go_ret
    exact ⟨rfl, Below.refl _ _⟩

end Go.Proofs.YtkgnapojkijbgaaGreatDoor
/- The contracts of rules.Like. -/
namespace Go.Proofs.YtkgnapojkijbgaaGreatDoor
open Go.RowKit

def likeR (r s : Rul) : Bool := decide (r.name = s.name) && (decide (r.metric = s.metric) && (decide (r.how = s.how) && (decide (r.limit = s.limit) && (decide (r.fr = s.fr) && (decide (r.keep = s.keep) && (decide (r.tries = s.tries) && decide (r.labels = s.labels)))))))
theorem likeR_iff (r s : Rul) : likeR r s = true ↔ r = s := by
  obtain ⟨n, m, k, l, f, p, t, ls⟩ := r
  obtain ⟨n2, m2, k2, l2, f2, p2, t2, ms⟩ := s
  simp [likeR]
theorem likeR_refl (r : Rul) : likeR r r = true := (likeR_iff r r).2 rfl
theorem name_eqR (a b : ByteArray) : (a.toList == b.toList) = decide (a = b) := toList_eq_iff a b

set_option maxHeartbeats 6400000 in
set_option maxRecDepth 100000 in
theorem rulLike_any (r r' : Rul) (a a' : Option Addr) (c c' : Nat) (w : World) (h : RulAt w r a c) (h' : RulAt w r' a' c') : Calls Tryz.prog 74 #[.agg (rCells r a c), .agg (rCells r' a' c')] w (BoolB (likeR r r') w) := by
  obtain ⟨n, m, k, l, f, p, t, ls⟩ := r
  obtain ⟨n2, m2, k2, l2, f2, p2, t2, ms⟩ := r'
  obtain ⟨hW, _, _⟩ := h
  obtain ⟨hW', _, _⟩ := h'
  simp only [rCells, likeR] at *
  have HE := Lib.hid (fun W (hb : Below w.heap.size w W) => equalL_any a a' c c' ls ms W (hW.call hb) (hW'.call hb))
  have hb1 := (Blk.new w 44 #[.string n, .string m, .int .i64 k, .int .i64 l, .int .i64 f, .int .i64 p, .int .i64 t, .slice a ls.length c]).alloc (.cells #[.string n2, .string m2, .int .i64 k2, .int .i64 l2, .int .i64 f2, .int .i64 p2, .int .i64 t2, .slice a' ms.length c'] 44)
  have hb3 := Blk.new (w.alloc (.cells #[.string n, .string m, .int .i64 k, .int .i64 l, .int .i64 f, .int .i64 p, .int .i64 t, .slice a ls.length c] 44)) 44 #[.string n2, .string m2, .int .i64 k2, .int .i64 l2, .int .i64 f2, .int .i64 p2, .int .i64 t2, .slice a' ms.length c']
  have hbl := ((Below.refl _ w).alloc (Nat.le_refl _) (.cells #[.string n, .string m, .int .i64 k, .int .i64 l, .int .i64 f, .int .i64 p, .int .i64 t, .slice a ls.length c] 44)).alloc (by simp) (.cells #[.string n2, .string m2, .int .i64 k2, .int .i64 l2, .int .i64 f2, .int .i64 p2, .int .i64 t2, .slice a' ms.length c'] 44)
  have e1 : (w.alloc (.cells #[.string n, .string m, .int .i64 k, .int .i64 l, .int .i64 f, .int .i64 p, .int .i64 t, .slice a ls.length c] 44)).heap.size = w.heap.size + 1 := by simp
  rw [e1] at hb3
  obtain ⟨x0, x1, x2, x3, x4, x5, x6, x7⟩ := hb1.cells8
  obtain ⟨y0, y1, y2, y3, y4, y5, y6, y7⟩ := hb3.cells8
  have HB := Lib.hid hbl
  obtain ⟨D, hD⟩ : ∃ D, decide (ls = ms) = D := ⟨_, rfl⟩
  rw [hD]
  rw [hD] at HE
  clear hW hW' hb1 hb3 hbl e1 hD
  by_cases h0 : n = n2
  · have q0 : (n.toList == n2.toList) = true := by rw [name_eqR]; exact decide_eq_true h0
    rw [decide_eq_true h0, Bool.true_and]
    clear h0
    by_cases h1 : m = m2
    · have q1 : (m.toList == m2.toList) = true := by rw [name_eqR]; exact decide_eq_true h1
      rw [decide_eq_true h1, Bool.true_and]
      clear h1
      by_cases h2 : k = k2
      · have q2 : (k == k2) = true := beq_iff_eq.2 h2
        rw [decide_eq_true h2, Bool.true_and]
        clear h2
        by_cases h3 : l = l2
        · have q3 : (l == l2) = true := beq_iff_eq.2 h3
          rw [decide_eq_true h3, Bool.true_and]
          clear h3
          by_cases h4 : f = f2
          · have q4 : (f == f2) = true := beq_iff_eq.2 h4
            rw [decide_eq_true h4, Bool.true_and]
            clear h4
            by_cases h5 : p = p2
            · have q5 : (p == p2) = true := beq_iff_eq.2 h5
              rw [decide_eq_true h5, Bool.true_and]
              clear h5
              by_cases h6 : t = t2
              · have q6 : (t == t2) = true := beq_iff_eq.2 h6
                rw [decide_eq_true h6, Bool.true_and]
                clear h6
                go_enter Tryz.func74, Tryz.ntmps74
                go_wp2_with (go_at_call 138; refine (HE.out _ HB.out).mono ?_; rintro e w2 ⟨rfl, hb2⟩)
                go_ret
                exact ⟨rfl, bthen HB.out hb2⟩
              · have q6 : (t == t2) = false := beq_eq_false_iff_ne.2 h6
                rw [decide_eq_false h6, Bool.false_and]
                clear h6
                go_enter Tryz.func74, Tryz.ntmps74
                go_wp2_with fail
                go_ret
                exact ⟨rfl, HB.out⟩
            · have q5 : (p == p2) = false := beq_eq_false_iff_ne.2 h5
              rw [decide_eq_false h5, Bool.false_and]
              clear h5
              go_enter Tryz.func74, Tryz.ntmps74
              go_wp2_with fail
              go_ret
              exact ⟨rfl, HB.out⟩
          · have q4 : (f == f2) = false := beq_eq_false_iff_ne.2 h4
            rw [decide_eq_false h4, Bool.false_and]
            clear h4
            go_enter Tryz.func74, Tryz.ntmps74
            go_wp2_with fail
            go_ret
            exact ⟨rfl, HB.out⟩
        · have q3 : (l == l2) = false := beq_eq_false_iff_ne.2 h3
          rw [decide_eq_false h3, Bool.false_and]
          clear h3
          go_enter Tryz.func74, Tryz.ntmps74
          go_wp2_with fail
          go_ret
          exact ⟨rfl, HB.out⟩
      · have q2 : (k == k2) = false := beq_eq_false_iff_ne.2 h2
        rw [decide_eq_false h2, Bool.false_and]
        clear h2
        go_enter Tryz.func74, Tryz.ntmps74
        go_wp2_with fail
        go_ret
        exact ⟨rfl, HB.out⟩
    · have q1 : (m.toList == m2.toList) = false := by rw [name_eqR]; exact decide_eq_false h1
      rw [decide_eq_false h1, Bool.false_and]
      clear h1
      go_enter Tryz.func74, Tryz.ntmps74
      go_wp2_with fail
      go_ret
      exact ⟨rfl, HB.out⟩
  · have q0 : (n.toList == n2.toList) = false := by rw [name_eqR]; exact decide_eq_false h0
    rw [decide_eq_false h0, Bool.false_and]
    clear h0
    go_enter Tryz.func74, Tryz.ntmps74
    go_wp2_with fail
    go_ret
    exact ⟨rfl, HB.out⟩
end Go.Proofs.YtkgnapojkijbgaaGreatDoor
/- slices.EqualFunc of rules and of inhibits. -/
namespace Go.Proofs.YtkgnapojkijbgaaGreatDoor
open Go.RowKit

theorem rowsPm {A V : Type} (pr : A → V) (xs ys : List A) (hl : xs.length = ys.length) : ∃ J, J ≤ xs.length ∧ (∀ k (h : k < xs.length) (h' : k < ys.length), k < J → pr xs[k] = pr ys[k]) ∧ (J = xs.length ∧ xs.map pr = ys.map pr ∨ ∃ (h : J < xs.length) (h' : J < ys.length), pr xs[J] ≠ pr ys[J] ∧ xs.map pr ≠ ys.map pr) := by
  obtain ⟨J, h1, h2, h3⟩ := rowsP (xs.map pr) (ys.map pr) (by simpa using hl)
  refine ⟨J, by simpa using h1, fun k h h' hk => ?_, ?_⟩
  · have := h2 k (by simpa using h) (by simpa using h') hk
    simpa using this
  · rcases h3 with ⟨e1, e2⟩ | ⟨g1, g2, g3, g4⟩
    · exact .inl ⟨by simpa using e1, e2⟩
    · exact .inr ⟨by simpa using g1, by simpa using g2, by simpa using g3, g4⟩
/-- an inhibit without the places -/
def InA.val (x : InA) : List Mat × List Mat × List ByteArray := (x.s, x.t, x.e)
theorem likeI_val (x y : InA) : eqB (likeI x y) = eqB (x.val = y.val) := by
  congr 1
  simp [likeI, InA.val]
theorem likeR_eq (r s : Rul) : likeR r s = eqB (r = s) := by
  by_cases h : r = s
  · rw [eqB_yes h, (likeR_iff r s).2 h]
  · rw [eqB_no h]
    cases e : likeR r s with
    | false => rfl
    | true => exact absurd ((likeR_iff r s).1 e) h
set_option maxHeartbeats 6400000 in
set_option maxRecDepth 100000 in
theorem eqRowR_any (ma mb : Option Addr) (ca cb : Nat) (ms ns : List RuA) (w : World) (h : HasRules w ma ca ms) (h' : HasRules w mb cb ns) :
    Calls Tryz.prog 73 #[.slice ma ms.length ca, .slice mb ns.length cb, .func (.func 74) #[] #[]] w (BoolB (eqB (ms.map RuA.r = ns.map RuA.r)) w) := by
  obtain ⟨R, hR⟩ : ∃ R, eqB (ms.map RuA.r = ns.map RuA.r) = R := ⟨_, rfl⟩
  rw [hR]
  have HR := Lib.hid hR
  have HPL := Lib.hid h
  have HPP := Lib.hid h'
  obtain ⟨hic1, hic2, _, _⟩ := h
  obtain ⟨hjc1, hjc2, _, _⟩ := h'
  unfold maxLen at hic2 hjc2
  clear hR
  go_enter Tryz.func73, Tryz.ntmps73
  by_cases hl : ms.length = ns.length
  case neg =>
    obtain rfl : R = false := by rw [← HR.out]; exact eqB_no (fun e => hl (by have := congrArg List.length e; simpa using this))
    have f4 := natNeR hl
    clear hl
    go_wp2_with fail
    go_ret
    exact ⟨rfl, Below.refl _ _⟩
  have f4 := natEqR hl
  obtain ⟨I, hI, hgood, hend⟩ := rowsPm RuA.r ms ns hl
  have HGI := Lib.hid hgood
  have HEI := Lib.hid hend
  have HIL := Lib.hid hl
  clear hgood hend hl
  go_wp2_with fail
  go_loopg [17, 7, 8, 9] ms.length (fun gg iv _ _ _ wr => ∃ k : Nat, k + gg = ms.length ∧ k ≤ I ∧ iv = .int .i64 k ∧ Below w.heap.size w wr)
  case atStart => exact ⟨0, by omega, Nat.zero_le _, rfl, Below.refl _ _⟩
  case round =>
    clear f4
    obtain ⟨k, hkg, hkI, rfl, hbr⟩ := hrel
    cases gk with
    | zero =>
      obtain rfl : k = ms.length := by omega
      obtain rfl : R = true := by
        rcases HEI.out with ⟨_, e⟩ | ⟨h1, _, _, _⟩
        · rw [← HR.out]
          exact eqB_yes e
        · omega
      go_wp2_with fail
      go_ret
      exact ⟨rfl, hbr⟩
    | succ gg =>
      have hkl : k < ms.length := by omega
      have hkm : k < ns.length := by have := HIL.out; omega
      obtain ⟨b1, o1, rfl, _, hg1⟩ := HPL.out.place k hkl
      obtain ⟨b2, o2, rfl, _, hg2⟩ := HPP.out.place k hkm
      have gs := HPL.out.2.2.1 ms[k] (List.getElem_mem _)
      have ks := HPP.out.2.2.1 ns[k] (List.getElem_mem _)
      obtain ⟨m, hmk⟩ : ∃ m, ms[k] = m := ⟨_, rfl⟩
      obtain ⟨n, hnk⟩ : ∃ n, ns[k] = n := ⟨_, rfl⟩
      rw [hmk] at hg1 gs
      rw [hnk] at hg2 ks
      have hb1 := balR (o := .cells #[.string m.r.name, .string m.r.metric, .int .i64 m.r.how, .int .i64 m.r.limit, .int .i64 m.r.fr, .int .i64 m.r.keep, .int .i64 m.r.tries, .slice m.a m.r.labels.length m.c] 44) (Below.refl wr.heap.size wr)
      have hb2 := balR (o := .cells #[.string n.r.name, .string n.r.metric, .int .i64 n.r.how, .int .i64 n.r.limit, .int .i64 n.r.fr, .int .i64 n.r.keep, .int .i64 n.r.tries, .slice n.a n.r.labels.length n.c] 44) hb1
      have e0 := cellL hbr (hg1 0 _ rfl)
      have e1 := cellL hbr (hg1 1 _ rfl)
      have e2 := cellL hbr (hg1 2 _ rfl)
      have e3 := cellL hbr (hg1 3 _ rfl)
      have e4 := cellL hbr (hg1 4 _ rfl)
      have e5 := cellL hbr (hg1 5 _ rfl)
      have e6 := cellL hbr (hg1 6 _ rfl)
      have e7 := cellL hbr (hg1 7 _ rfl)
      have f0 := cellL (bthen hbr hb1) (hg2 0 _ rfl)
      have f1 := cellL (bthen hbr hb1) (hg2 1 _ rfl)
      have f2 := cellL (bthen hbr hb1) (hg2 2 _ rfl)
      have f3 := cellL (bthen hbr hb1) (hg2 3 _ rfl)
      have f4 := cellL (bthen hbr hb1) (hg2 4 _ rfl)
      have f5 := cellL (bthen hbr hb1) (hg2 5 _ rfl)
      have f6 := cellL (bthen hbr hb1) (hg2 6 _ rfl)
      have f7 := cellL (bthen hbr hb1) (hg2 7 _ rfl)
      rw [Nat.add_zero] at e0 f0
      have hA := (Blk.new wr 44 #[.string m.r.name, .string m.r.metric, .int .i64 m.r.how, .int .i64 m.r.limit, .int .i64 m.r.fr, .int .i64 m.r.keep, .int .i64 m.r.tries, .slice m.a m.r.labels.length m.c]).alloc (.cells #[.string n.r.name, .string n.r.metric, .int .i64 n.r.how, .int .i64 n.r.limit, .int .i64 n.r.fr, .int .i64 n.r.keep, .int .i64 n.r.tries, .slice n.a n.r.labels.length n.c] 44)
      have hB := nbR wr (.cells #[.string m.r.name, .string m.r.metric, .int .i64 m.r.how, .int .i64 m.r.limit, .int .i64 m.r.fr, .int .i64 m.r.keep, .int .i64 m.r.tries, .slice m.a m.r.labels.length m.c] 44) #[.string n.r.name, .string n.r.metric, .int .i64 n.r.how, .int .i64 n.r.limit, .int .i64 n.r.fr, .int .i64 n.r.keep, .int .i64 n.r.tries, .slice n.a n.r.labels.length n.c] 44
      have hM := rulLike_any m.r n.r m.a n.a m.c n.c ((wr.alloc (.cells #[.string m.r.name, .string m.r.metric, .int .i64 m.r.how, .int .i64 m.r.limit, .int .i64 m.r.fr, .int .i64 m.r.keep, .int .i64 m.r.tries, .slice m.a m.r.labels.length m.c] 44)).alloc (.cells #[.string n.r.name, .string n.r.metric, .int .i64 n.r.how, .int .i64 n.r.limit, .int .i64 n.r.fr, .int .i64 n.r.keep, .int .i64 n.r.tries, .slice n.a n.r.labels.length n.c] 44)) (RulAt.call gs (bthen hbr hb2)) (RulAt.call ks (bthen hbr hb2))
      rw [likeR_eq] at hM
      obtain ⟨X, hX⟩ : ∃ X, eqB (RuA.r m = RuA.r n) = X := ⟨_, rfl⟩
      rw [hX] at hM
      have HM := Lib.hid hM
      have HB2 := Lib.hid (bthen hbr hb2)
      have hrr : k = I → X = false ∧ R = false := fun e => by
        rcases HEI.out with ⟨h1, _⟩ | ⟨_, _, h3, h4⟩
        · omega
        · subst e
          rw [hmk, hnk] at h3
          exact ⟨by rw [← hX]; exact eqB_no h3, by rw [← HR.out]; exact eqB_no h4⟩
      have hgg : k ≠ I → X = true := fun e => by
        have := HGI.out k hkl hkm (by omega)
        rw [hmk, hnk] at this
        rw [← hX]; exact eqB_yes this
      obtain ⟨c0, c1, c2, c3, c4, c5, c6, c7⟩ := hA.cells8
      obtain ⟨d0, d1, d2, d3, d4, d5, d6, d7⟩ := hB.cells8
      clear hX hmk hnk hM hb1 hb2 hA hB hbr hg1 hg2 gs ks
      by_cases hkI2 : k = I
      · obtain ⟨rfl, rfl⟩ := hrr hkI2
        clear hrr hgg hkI2 hkI
        go_wp2_with (go_at_call 74; refine HM.out.mono ?_; rintro e w3 ⟨rfl, hb3⟩)
        go_ret
        exact ⟨rfl, bthen HB2.out hb3⟩
      · obtain rfl := hgg hkI2
        clear hrr hgg
        go_wp2_with (go_at_call 74; refine HM.out.mono ?_; rintro e w3 ⟨rfl, hb3⟩)
        go_roundg gg
        case measure => omega
        case rel => exact ⟨k + 1, by omega, by omega, by go_num, bthen HB2.out hb3⟩
set_option maxHeartbeats 6400000 in
set_option maxRecDepth 100000 in
theorem eqRowI_any (ma mb : Option Addr) (ca cb : Nat) (ms ns : List InA) (w : World) (h : HasInhs w ma ca ms) (h' : HasInhs w mb cb ns) :
    Calls Tryz.prog 77 #[.slice ma ms.length ca, .slice mb ns.length cb, .func (.func 68) #[] #[]] w (BoolB (eqB (ms.map InA.val = ns.map InA.val)) w) := by
  obtain ⟨R, hR⟩ : ∃ R, eqB (ms.map InA.val = ns.map InA.val) = R := ⟨_, rfl⟩
  rw [hR]
  have HR := Lib.hid hR
  have HPL := Lib.hid h
  have HPP := Lib.hid h'
  obtain ⟨hic1, hic2, _, _⟩ := h
  obtain ⟨hjc1, hjc2, _, _⟩ := h'
  unfold maxLen at hic2 hjc2
  clear hR
  go_enter Tryz.func77, Tryz.ntmps77
  by_cases hl : ms.length = ns.length
  case neg =>
    obtain rfl : R = false := by rw [← HR.out]; exact eqB_no (fun e => hl (by have := congrArg List.length e; simpa using this))
    have f4 := natNeR hl
    clear hl
    go_wp2_with fail
    go_ret
    exact ⟨rfl, Below.refl _ _⟩
  have f4 := natEqR hl
  obtain ⟨I, hI, hgood, hend⟩ := rowsPm InA.val ms ns hl
  have HGI := Lib.hid hgood
  have HEI := Lib.hid hend
  have HIL := Lib.hid hl
  clear hgood hend hl
  go_wp2_with fail
  go_loopg [17, 7, 8, 9] ms.length (fun gg iv _ _ _ wr => ∃ k : Nat, k + gg = ms.length ∧ k ≤ I ∧ iv = .int .i64 k ∧ Below w.heap.size w wr)
  case atStart => exact ⟨0, by omega, Nat.zero_le _, rfl, Below.refl _ _⟩
  case round =>
    clear f4
    obtain ⟨k, hkg, hkI, rfl, hbr⟩ := hrel
    cases gk with
    | zero =>
      obtain rfl : k = ms.length := by omega
      obtain rfl : R = true := by
        rcases HEI.out with ⟨_, e⟩ | ⟨h1, _, _, _⟩
        · rw [← HR.out]
          exact eqB_yes e
        · omega
      go_wp2_with fail
      go_ret
      exact ⟨rfl, hbr⟩
    | succ gg =>
      have hkl : k < ms.length := by omega
      have hkm : k < ns.length := by have := HIL.out; omega
      obtain ⟨b1, o1, rfl, _, hg1⟩ := HPL.out.place k hkl
      obtain ⟨b2, o2, rfl, _, hg2⟩ := HPP.out.place k hkm
      have gs := HPL.out.2.2.1 ms[k] (List.getElem_mem _)
      have ks := HPP.out.2.2.1 ns[k] (List.getElem_mem _)
      obtain ⟨m, hmk⟩ : ∃ m, ms[k] = m := ⟨_, rfl⟩
      obtain ⟨n, hnk⟩ : ∃ n, ns[k] = n := ⟨_, rfl⟩
      rw [hmk] at hg1 gs
      rw [hnk] at hg2 ks
      have hb1 := balR (o := .cells #[.slice m.sa m.s.length m.sc, .slice m.ta m.t.length m.tc, .slice m.ea m.e.length m.ec] 48) (Below.refl wr.heap.size wr)
      have hb2 := balR (o := .cells #[.slice n.sa n.s.length n.sc, .slice n.ta n.t.length n.tc, .slice n.ea n.e.length n.ec] 48) hb1
      have e0 := cellL hbr (hg1 0 _ rfl)
      have e1 := cellL hbr (hg1 1 _ rfl)
      have e2 := cellL hbr (hg1 2 _ rfl)
      have f0 := cellL (bthen hbr hb1) (hg2 0 _ rfl)
      have f1 := cellL (bthen hbr hb1) (hg2 1 _ rfl)
      have f2 := cellL (bthen hbr hb1) (hg2 2 _ rfl)
      rw [Nat.add_zero] at e0 f0
      have hA := (Blk.new wr 48 #[.slice m.sa m.s.length m.sc, .slice m.ta m.t.length m.tc, .slice m.ea m.e.length m.ec]).alloc (.cells #[.slice n.sa n.s.length n.sc, .slice n.ta n.t.length n.tc, .slice n.ea n.e.length n.ec] 48)
      have hB := nbR wr (.cells #[.slice m.sa m.s.length m.sc, .slice m.ta m.t.length m.tc, .slice m.ea m.e.length m.ec] 48) #[.slice n.sa n.s.length n.sc, .slice n.ta n.t.length n.tc, .slice n.ea n.e.length n.ec] 48
      have hM := likeInh_any m n ((wr.alloc (.cells #[.slice m.sa m.s.length m.sc, .slice m.ta m.t.length m.tc, .slice m.ea m.e.length m.ec] 48)).alloc (.cells #[.slice n.sa n.s.length n.sc, .slice n.ta n.t.length n.tc, .slice n.ea n.e.length n.ec] 48)) (InA.ok.call gs (bthen hbr hb2)) (InA.ok.call ks (bthen hbr hb2))
      rw [likeI_val] at hM
      obtain ⟨X, hX⟩ : ∃ X, eqB (InA.val m = InA.val n) = X := ⟨_, rfl⟩
      rw [hX] at hM
      have HM := Lib.hid hM
      have HB2 := Lib.hid (bthen hbr hb2)
      have hrr : k = I → X = false ∧ R = false := fun e => by
        rcases HEI.out with ⟨h1, _⟩ | ⟨_, _, h3, h4⟩
        · omega
        · subst e
          rw [hmk, hnk] at h3
          exact ⟨by rw [← hX]; exact eqB_no h3, by rw [← HR.out]; exact eqB_no h4⟩
      have hgg : k ≠ I → X = true := fun e => by
        have := HGI.out k hkl hkm (by omega)
        rw [hmk, hnk] at this
        rw [← hX]; exact eqB_yes this
      obtain ⟨c0, c1, c2⟩ := hA.cells3
      obtain ⟨d0, d1, d2⟩ := hB.cells3
      clear hX hmk hnk hM hb1 hb2 hA hB hbr hg1 hg2 gs ks
      by_cases hkI2 : k = I
      · obtain ⟨rfl, rfl⟩ := hrr hkI2
        clear hrr hgg hkI2 hkI
        go_wp2_with (go_at_call 68; refine HM.out.mono ?_; rintro e w3 ⟨rfl, hb3⟩)
        go_ret
        exact ⟨rfl, bthen HB2.out hb3⟩
      · obtain rfl := hgg hkI2
        clear hrr hgg
        go_wp2_with (go_at_call 68; refine HM.out.mono ?_; rintro e w3 ⟨rfl, hb3⟩)
        go_roundg gg
        case measure => omega
        case rel => exact ⟨k + 1, by omega, by omega, by go_num, bthen HB2.out hb3⟩
end Go.Proofs.YtkgnapojkijbgaaGreatDoor
/- slices.Equal of hours. -/
namespace Go.Proofs.YtkgnapojkijbgaaGreatDoor
open Go.RowKit

theorem hr_eq (x y : HrA) : eqB (x = y) = (decide (x.n.toList = y.n.toList) && (decide (x.d = y.d) && (decide (x.f = y.f) && decide (x.t = y.t)))) := by
  obtain ⟨n, d, f, t⟩ := x
  obtain ⟨n', d', f', t'⟩ := y
  by_cases h : (⟨n, d, f, t⟩ : HrA) = ⟨n', d', f', t'⟩
  · rw [eqB_yes h]
    cases h
    simp
  · rw [eqB_no h]
    symm
    rw [Bool.eq_false_iff]
    intro e
    simp only [Bool.and_eq_true, decide_eq_true_eq] at e
    obtain ⟨e1, rfl, rfl, rfl⟩ := e
    obtain rfl : n = n' := of_decide_eq_true ((toList_eq_iff n n').symm.trans (beq_iff_eq.2 e1))
    exact h rfl
set_option maxHeartbeats 1600000 in
theorem run_neq_hrs (x y : HrA) (w : World) : (binOp .neq 51 (.agg #[.string x.n, .int .i64 x.d, .int .i64 x.f, .int .i64 x.t]) (.agg #[.string y.n, .int .i64 y.d, .int .i64 y.f, .int .i64 y.t])).run Tryz.prog w = .ok (.bool (!eqB (x = y))) w := by
  rw [hr_eq]
  simp [go_sem]
  by_cases h1 : x.n.toList = y.n.toList <;> by_cases h2 : x.d = y.d <;> by_cases h3 : x.f = y.f <;> by_cases h4 : x.t = y.t <;> simp [h1, h2, h3, h4]
set_option maxHeartbeats 6400000 in
set_option maxRecDepth 100000 in
theorem eqRowH_any (ma mb : Option Addr) (ca cb : Nat) (ms ns : List HrA) (w : World) (h : HasHours w ma ca ms) (h' : HasHours w mb cb ns) :
    Calls Tryz.prog 78 #[.slice ma ms.length ca, .slice mb ns.length cb] w (BoolB (eqB (ms = ns)) w) := by
  obtain ⟨R, hR⟩ : ∃ R, eqB (ms = ns) = R := ⟨_, rfl⟩
  rw [hR]
  have HR := Lib.hid hR
  have HPL := Lib.hid h
  have HPP := Lib.hid h'
  obtain ⟨hic1, hic2, _, _⟩ := h
  obtain ⟨hjc1, hjc2, _, _⟩ := h'
  unfold maxLen at hic2 hjc2
  clear hR
  go_enter Tryz.func78, Tryz.ntmps78
  by_cases hl : ms.length = ns.length
  case neg =>
    obtain rfl : R = false := by rw [← HR.out]; exact eqB_no (fun e => hl (by rw [e]))
    have f4 := natNeR hl
    clear hl
    go_wp2_with fail
    go_ret
    exact ⟨rfl, Below.refl _ _⟩
  have f4 := natEqR hl
  obtain ⟨I, hI, hgood, hend⟩ := rowsP ms ns hl
  have HGI := Lib.hid hgood
  have HEI := Lib.hid hend
  have HIL := Lib.hid hl
  clear hgood hend hl
  go_wp2_with fail
  go_loopg [13, 5] ms.length (fun gg iv _ wr => ∃ k : Nat, k + gg = ms.length ∧ k ≤ I ∧ iv = .int .i64 k ∧ Below w.heap.size w wr)
  case atStart => exact ⟨0, by omega, Nat.zero_le _, rfl, Below.refl _ _⟩
  case round =>
    clear f4
    obtain ⟨k, hkg, hkI, rfl, hbr⟩ := hrel
    cases gk with
    | zero =>
      obtain rfl : k = ms.length := by omega
      obtain rfl : R = true := by
        rcases HEI.out with ⟨_, e⟩ | ⟨h1, _, _, _⟩
        · rw [← HR.out]
          exact eqB_yes e
        · omega
      go_wp2_with fail
      go_ret
      exact ⟨rfl, hbr⟩
    | succ gg =>
      have hkl : k < ms.length := by omega
      have hkm : k < ns.length := by have := HIL.out; omega
      obtain ⟨b1, o1, rfl, _, hg1⟩ := HPL.out.place k hkl
      obtain ⟨b2, o2, rfl, _, hg2⟩ := HPP.out.place k hkm
      obtain ⟨m, hmk⟩ : ∃ m, ms[k] = m := ⟨_, rfl⟩
      obtain ⟨n, hnk⟩ : ∃ n, ns[k] = n := ⟨_, rfl⟩
      rw [hmk] at hg1
      rw [hnk] at hg2
      have e0 := cellL hbr (hg1 0 _ rfl)
      have e1 := cellL hbr (hg1 1 _ rfl)
      have e2 := cellL hbr (hg1 2 _ rfl)
      have e3 := cellL hbr (hg1 3 _ rfl)
      have f0 := cellL hbr (hg2 0 _ rfl)
      have f1 := cellL hbr (hg2 1 _ rfl)
      have f2 := cellL hbr (hg2 2 _ rfl)
      have f3 := cellL hbr (hg2 3 _ rfl)
      rw [Nat.add_zero] at e0 f0
      have e0 := fun x => later_cell e0 x
      have e1 := fun x => later_cell e1 x
      have e2 := fun x => later_cell e2 x
      have e3 := fun x => later_cell e3 x
      have f0 := fun x => later_cell f0 x
      have f1 := fun x => later_cell f1 x
      have f2 := fun x => later_cell f2 x
      have f3 := fun x => later_cell f3 x
      have hne := fun W => run_neq_hrs m n W
      obtain ⟨X, hX⟩ : ∃ X, eqB (m = n) = X := ⟨_, rfl⟩
      rw [hX] at hne
      have hrr : k = I → X = false ∧ R = false := fun e => by
        rcases HEI.out with ⟨h1, _⟩ | ⟨_, _, h3, h4⟩
        · omega
        · subst e
          rw [hmk, hnk] at h3
          exact ⟨by rw [← hX]; exact eqB_no h3, by rw [← HR.out]; exact eqB_no h4⟩
      have hgg : k ≠ I → X = true := fun e => by
        have := HGI.out k hkl hkm (by omega)
        rw [hmk, hnk] at this
        rw [← hX]; exact eqB_yes this
      have HBR := Lib.hid hbr
      clear hX hmk hnk hbr hg1 hg2
      by_cases hkI2 : k = I
      · obtain ⟨rfl, rfl⟩ := hrr hkI2
        clear hrr hgg hkI2 hkI
        go_upto_region 6 with fail
        refine wp_region_later (by kernel_rfl) (by kernel_rfl) ?_
        repeat (go_big_quiet_step (fail))
        refine wpQuiet_nil ?_
        rintro _ ⟨z, rfl⟩
        have hb3 := later_below wr z
        generalize later wr z = w5 at *
        clear e0 e1 e2 e3 f0 f1 f2 f3
        go_wp2_with fail
        go_ret
        exact ⟨rfl, bthen HBR.out hb3⟩
      · obtain rfl := hgg hkI2
        clear hrr hgg
        go_upto_region 6 with fail
        refine wp_region_later (by kernel_rfl) (by kernel_rfl) ?_
        repeat (go_big_quiet_step (fail))
        refine wpQuiet_nil ?_
        rintro _ ⟨z, rfl⟩
        have hb3 := later_below wr z
        generalize later wr z = w5 at *
        clear e0 e1 e2 e3 f0 f1 f2 f3
        go_wp2_with fail
        go_roundg gg
        case measure => omega
        case rel => exact ⟨k + 1, by omega, by omega, by go_num, bthen HBR.out hb3⟩
end Go.Proofs.YtkgnapojkijbgaaGreatDoor
/- The contracts of routes.Like, of its closure, and of slices.EqualFunc around that. -/
namespace Go.Proofs.YtkgnapojkijbgaaGreatDoor
open Go.RowKit

abbrev likF (fB : Nat) : Value := .func (.func 139) #[] #[.pointer (some ⟨fB, 0, none⟩)]
/-- what the closure tells of a route that lies in w0 and any other -/
def LkR (w0 : World) (fB : Nat) (q : RtAt) : Prop := ∀ (p : RtAt) (w : World), p.ok w → Below w0.heap.size w0 w → Blk w fB 97 #[likF fB] →
  Calls Tryz.prog 139 #[.agg (tCells q), .agg (tCells p), .pointer (some ⟨fB, 0, none⟩)] w (BoolB (eqB (q.n = p.n)) w)

set_option maxHeartbeats 6400000 in
set_option maxRecDepth 100000 in
theorem eqRts_of {w0 : World} {fB : Nat} (q : RtAt) (hic : q.n.kids.length ≤ q.kc ∧ q.kc ≤ maxLen) (hpl : q.n.kids = [] ∨ ∃ b off, q.ka = some ⟨b, off, none⟩ ∧ b < w0.heap.size ∧ ∀ i (h : i < q.n.kids.length), ∃ r : RtAt, r.n = q.n.kids[i] ∧ r.lies w0 b (off + i * 9) ∧ r.ok w0 ∧ LkR w0 fB r)
    (p : RtAt) (w : World) (hp : p.ok w) (hw : Below w0.heap.size w0 w) (hf : Blk w fB 97 #[likF fB]) :
    Calls Tryz.prog 141 #[.slice q.ka q.n.kids.length q.kc, .slice p.ka p.n.kids.length p.kc, likF fB] w (BoolB (eqB (q.n.kids = p.n.kids)) w) := by
  have hjc := hp.head.2
  have hpp := hp.place
  obtain ⟨R, hR⟩ : ∃ R, eqB (q.n.kids = p.n.kids) = R := ⟨_, rfl⟩
  rw [hR]
  have HR := Lib.hid hR
  have HPL := Lib.hid hpl
  have HPP := Lib.hid hpp
  have HW := Lib.hid hw
  have HF := Lib.hid hf
  unfold maxLen at hic hjc
  obtain ⟨hic1, hic2⟩ := hic
  obtain ⟨hjc1, hjc2⟩ := hjc
  clear hpl hpp hR hp hw hf
  obtain ⟨n, ma, mc, ba, bc, ua, uc, ka, kc⟩ := q
  obtain ⟨m, ma2, mc2, ba2, bc2, ua2, uc2, ka2, kc2⟩ := p
  simp only at *
  simp only [likF]
  go_enter Tryz.func141, Tryz.ntmps141
  by_cases hl : n.kids.length = m.kids.length
  case neg =>
    obtain rfl : R = false := by rw [← HR.out]; exact eqB_no (fun e => hl (by rw [e]))
    have f4 := natNeR hl
    clear hl
    go_wp2_with fail
    go_ret
    exact ⟨rfl, Below.refl _ _⟩
  have f4 := natEqR hl
  obtain ⟨I, hI, hgood, hend⟩ := rowsP n.kids m.kids hl
  have HGI := Lib.hid hgood
  have HEI := Lib.hid hend
  have HIL := Lib.hid hl
  clear hgood hend hl
  go_wp2_with fail
  go_loopg [17, 7, 8, 9] n.kids.length (fun gg iv _ _ _ wr => ∃ k : Nat, k + gg = n.kids.length ∧ k ≤ I ∧ iv = .int .i64 k ∧ Below w.heap.size w wr)
  case atStart => exact ⟨0, by omega, Nat.zero_le _, rfl, Below.refl _ _⟩
  case round =>
    clear f4
    obtain ⟨k, hkg, hkI, rfl, hbr⟩ := hrel
    cases gk with
    | zero =>
      obtain rfl : k = n.kids.length := by omega
      obtain rfl : R = true := by
        rcases HEI.out with ⟨_, e⟩ | ⟨h1, _, _, _⟩
        · rw [← HR.out]
          exact eqB_yes e
        · omega
      go_wp2_with fail
      go_ret
      exact ⟨rfl, hbr⟩
    | succ gg =>
      have hkl : k < n.kids.length := by omega
      have hkm : k < m.kids.length := by have := HIL.out; omega
      obtain ⟨b1, o1, rfl, r, hrn, hrl, _, hrM⟩ : ∃ b off, ka = some ⟨b, off, none⟩ ∧ ∃ r : RtAt, r.n = n.kids[k] ∧ r.lies w0 b (off + k * 9) ∧ r.ok w0 ∧ LkR w0 fB r := by
        rcases HPL.out with h | ⟨b, off, h1, _, h3⟩
        · rw [h] at hkl; simp at hkl
        · exact ⟨b, off, h1, h3 k hkl⟩
      obtain ⟨b2, o2, rfl, s, hsn, hsl, hso⟩ : ∃ b off, ka2 = some ⟨b, off, none⟩ ∧ ∃ r : RtAt, r.n = m.kids[k] ∧ r.lies w b (off + k * 9) ∧ r.ok w := by
        rcases HPP.out with h | ⟨b, off, h1, _, h3⟩
        · rw [h] at hkm; simp at hkm
        · exact ⟨b, off, h1, h3 k hkm⟩
      obtain ⟨x0, x1, x2, x3, x4, x5, x6, x7, x8⟩ := hrl.call (bthen HW.out hbr)
      have hb1 := balR (o := .cells (tCells r) 27) (Below.refl wr.heap.size wr)
      obtain ⟨y0, y1, y2, y3, y4, y5, y6, y7, y8⟩ := hsl.call (bthen hbr hb1)
      have hb2 := balR (o := .cells (tCells s) 27) hb1
      have hA := (Blk.new wr 27 (tCells r)).alloc (.cells (tCells s) 27)
      have hB := nbR wr (.cells (tCells r) 27) (tCells s) 27
      have hM := hrM s ((wr.alloc (.cells (tCells r) 27)).alloc (.cells (tCells s) 27)) (hso.call (bthen hbr hb2)) (bthen (bthen HW.out hbr) hb2) (HF.out.call (bthen hbr hb2))
      obtain ⟨X, hX⟩ : ∃ X, eqB (r.n = s.n) = X := ⟨_, rfl⟩
      rw [hX] at hM
      rw [hrn, hsn] at hX
      have HM := Lib.hid hM
      have HB2 := Lib.hid (bthen hbr hb2)
      have hrr : k = I → X = false ∧ R = false := fun e => by
        rcases HEI.out with ⟨h1, _⟩ | ⟨_, _, h3, h4⟩
        · omega
        · subst e
          exact ⟨by rw [← hX]; exact eqB_no h3, by rw [← HR.out]; exact eqB_no h4⟩
      have hgg : k ≠ I → X = true := fun e => by rw [← hX]; exact eqB_yes (HGI.out k hkl hkm (by omega))
      obtain ⟨c0, c1, c2, c3, c4, c5, c6, c7, c8⟩ := hA.cells9
      obtain ⟨d0, d1, d2, d3, d4, d5, d6, d7, d8⟩ := hB.cells9
      clear hX hrn hsn hrl hsl hso hrM hM hb1 hb2 hA hB hbr
      obtain ⟨r, ra, rc, rba, rbc, rua, ruc, qa, qc⟩ := r
      obtain ⟨s, sa, sc, sba, sbc, sua, suc, pa, pc⟩ := s
      simp only [tCells] at *
      by_cases hkI2 : k = I
      · obtain ⟨rfl, rfl⟩ := hrr hkI2
        clear hrr hgg hkI2 hkI
        go_wp2_with (go_at_call 139; refine HM.out.mono ?_; rintro e w3 ⟨rfl, hb3⟩)
        go_ret
        exact ⟨rfl, bthen HB2.out hb3⟩
      · obtain rfl := hgg hkI2
        clear hrr hgg
        go_wp2_with (go_at_call 139; refine HM.out.mono ?_; rintro e w3 ⟨rfl, hb3⟩)
        go_roundg gg
        case measure => omega
        case rel => exact ⟨k + 1, by omega, by omega, by go_num, bthen HB2.out hb3⟩

set_option maxHeartbeats 6400000 in
set_option maxRecDepth 100000 in
theorem like_step {w0 : World} {fB : Nat} (q : RtAt) (hqo : q.own w0) (hkc : q.n.kids.length ≤ q.kc ∧ q.kc ≤ maxLen) (hpl : q.n.kids = [] ∨ ∃ b off, q.ka = some ⟨b, off, none⟩ ∧ b < w0.heap.size ∧ ∀ i (h : i < q.n.kids.length), ∃ r : RtAt, r.n = q.n.kids[i] ∧ r.lies w0 b (off + i * 9) ∧ r.ok w0 ∧ LkR w0 fB r) : LkR w0 fB q := by
  intro p w hp hw hf
  have hb := balR (o := .cells (tCells q) 27) (Below.refl w.heap.size w)
  have hb2 := balR (o := .cells (tCells p) 27) hb
  have hB := (Blk.new w 27 (tCells q)).alloc (.cells (tCells p) 27)
  have hP := nbR w (.cells (tCells q) 27) (tCells p) 27
  have hA := fun W (hW : Below w.heap.size w W) => likeAlone_any q p W ((hqo.call hw).call hW) (hp.own.call hW)
  have hE := fun W (hW : Below w.heap.size w W) => eqRts_of q hkc hpl p W (hp.call hW) (bthen hw hW) (hf.call hW)
  have hR : eqB (q.n = p.n) = (eqB (aloneB q.n p.n) && eqB (q.n.kids = p.n.kids)) := by
    rw [← eqB_and]
    congr 1
    exact propext (alone_ext _ _)
  rw [hR]
  generalize eqB (aloneB q.n p.n) = B1 at *
  generalize eqB (q.n.kids = p.n.kids) = B2 at *
  have HA := Lib.hid hA
  have HE := Lib.hid hE
  have HF := Lib.hid (hf.call hb2)
  have HB := Lib.hid hb2
  clear hA hE hb hb2 hp hw hf hqo hpl hkc hR
  obtain ⟨n, m1a, m1c, b1a, b1c, u1a, u1c, k1a, k1c⟩ := q
  obtain ⟨m, m2a, m2c, b2a, b2c, u2a, u2c, k2a, k2c⟩ := p
  simp only [tCells, likF] at *
  go_enter Tryz.func139, Tryz.ntmps139
  go_upto_region 1 with fail
  obtain ⟨g, hg⟩ : ∃ g, w.heap.size = g := ⟨_, rfl⟩
  generalize (w.alloc (.cells #[.string n.recv, .slice m1a n.ms.length m1c, .slice b1a n.bys.length b1c, .int .i64 n.wait, .int .i64 n.every, .int .i64 n.rep, .slice u1a n.mute.length u1c, .bool n.on, .slice k1a n.kids.length k1c] 27)).alloc (.cells #[.string m.recv, .slice m2a m.ms.length m2c, .slice b2a m.bys.length b2c, .int .i64 m.wait, .int .i64 m.every, .int .i64 m.rep, .slice u2a m.mute.length u2c, .bool m.on, .slice k2a m.kids.length k2c] 27) = wx at *
  rw [hg] at hB hP ⊢
  clear hg
  have HBQ := Lib.hid (fun W (hW : Below wx.heap.size wx W) => (hB.call hW).cells9)
  have HBP := Lib.hid (fun W (hW : Below wx.heap.size wx W) => (hP.call hW).cells9)
  obtain ⟨c0, c1, c2, c3, c4, c5, c6, c7, c8⟩ := hB.cells9
  obtain ⟨d0, d1, d2, d3, d4, d5, d6, d7, d8⟩ := hP.cells9
  clear hB hP
  have HF2 : Hid (∀ W, Below wx.heap.size wx W → W.cell? ⟨fB, 0, none⟩ = some (.func (.func 139) #[] #[.pointer (some ⟨fB, 0, none⟩)])) := Lib.hid (fun W hW => (HF.out.call hW).cell 0)
  cases B1 with
  | false =>
    go_wp2_with (go_at_call 140; refine (HA.out _ HB.out).mono ?_; rintro e w2 ⟨rfl, hb2⟩)
    go_ret
    exact ⟨rfl, bthen HB.out hb2⟩
  | true =>
    go_wp2_with (first
      | (go_at_call 140; refine (HA.out _ HB.out).mono ?_; rintro e w2 ⟨rfl, hb2⟩; obtain ⟨x0, x1, x2, x3, x4, x5, x6, x7, x8⟩ := HBQ.out _ hb2; obtain ⟨y0, y1, y2, y3, y4, y5, y6, y7, y8⟩ := HBP.out _ hb2; have z0 := HF2.out _ hb2)
      | (go_at_call 141; refine (HE.out _ (bthen HB.out hb2)).mono ?_; rintro e w3 ⟨rfl, hb3⟩))
    go_ret
    exact ⟨rfl, bthen HB.out (bthen hb2 hb3)⟩
theorem likeIn_any {w0 : World} {fB : Nat} {q : RtAt} (h : q.ok w0) : LkR w0 fB q := by
  induction h with
  | flat q h0 h1 => exact like_step q h0.1 h0.2 (.inl h1)
  | row q b off R h0 h1 h2 h3 h4 h5 ih => exact like_step q h0.1 h0.2 (.inr ⟨b, off, h1, h2, fun i hi => ⟨R i, h3 i hi, h4 i hi, h5 i hi, ih i hi⟩⟩)
set_option maxHeartbeats 6400000 in
set_option maxRecDepth 100000 in
theorem routesLike_any (q p : RtAt) (w : World) (hq : q.ok w) (hp : p.ok w) : Calls Tryz.prog 75 #[.agg (tCells q), .agg (tCells p)] w (BoolB (eqB (q.n = p.n)) w) := by
  have hb := balR (o := .cells (tCells q) 27) (Below.refl w.heap.size w)
  have hb2 := balR (o := .cells (tCells p) 27) hb
  have hB := (Blk.new w 27 (tCells q)).alloc (.cells (tCells p) 27)
  have hP := nbR w (.cells (tCells q) 27) (tCells p) 27
  generalize hw2 : (w.alloc (.cells (tCells q) 27)).alloc (.cells (tCells p) 27) = w2 at *
  have hb3 := balR (o := .cells #[likF (w2.heap.size)] 97) hb2
  have hF := Blk.new w2 97 #[likF (w2.heap.size)]
  have hB3 := hB.alloc (.cells #[likF (w2.heap.size)] 97)
  have hP3 := hP.alloc (.cells #[likF (w2.heap.size)] 97)
  have hL := likeIn_any hq p _ (hp.call hb3) hb3 hF
  have hf1 := hF.cells1
  have HL := Lib.hid hL
  have HB := Lib.hid hb3
  clear hb hb2 hb3 hB hP hF hL hq hp
  generalize eqB (q.n = p.n) = R at *
  obtain ⟨n, m1a, m1c, b1a, b1c, u1a, u1c, k1a, k1c⟩ := q
  obtain ⟨m, m2a, m2c, b2a, b2c, u2a, u2c, k2a, k2c⟩ := p
  simp only [tCells, likF] at *
  go_enter Tryz.func75, Tryz.ntmps75
  go_upto_region 1 with fail
  clear hw2
  go_upto_region 3 with fail
  generalize w2.alloc (.cells #[.func (.func 139) #[] #[.pointer (some ⟨w2.heap.size, 0, none⟩)]] 97) = wx at *
  obtain ⟨c0, c1, c2, c3, c4, c5, c6, c7, c8⟩ := hB3.cells9
  obtain ⟨d0, d1, d2, d3, d4, d5, d6, d7, d8⟩ := hP3.cells9
  go_wp2_with (go_at_call 139; refine HL.out.mono ?_; rintro e w3 ⟨rfl, hb3⟩)
  go_ret
  exact ⟨rfl, bthen HB.out hb3⟩
end Go.Proofs.YtkgnapojkijbgaaGreatDoor
/- The contract of config.Same. -/
namespace Go.Proofs.YtkgnapojkijbgaaGreatDoor
open Go.RowKit Go.Lib Go.Sort

/-- two normal forms are the same -/
noncomputable def sameK (x y : CfA) : Bool := eqB (x.ru.map RuA.r = y.ru.map RuA.r) && (eqB (x.rt.n = y.rt.n) && (decide (x.re = y.re) && (eqB (x.ih.map InA.val = y.ih.map InA.val) && eqB (x.hr = y.hr))))
def SameP (a b : CfA) (w : World) (e : Ending) (w' : World) : Prop :=
  Below w.heap.size w w' ∧ ∃ X : Bool, e = .returned (.bool X) ∧ ((cfgC a = false ∨ cfgC b = false) ∧ X = false ∨ cfgC a = true ∧ cfgC b = true ∧ ∃ ka kb, NormOf a ka ∧ NormOf b kb ∧ X = sameK ka kb)
theorem below_back {B : Nat} {w a b : World} (ha : Below B w a) (hb : Below B w b) (hz : a.heap.size ≤ b.heap.size) : Below B a b :=
  ⟨hb.os.trans ha.os.symm, hb.tape.trans ha.tape.symm, hb.output.trans ha.output.symm, hz, fun q hq => (hb.block q hq).trans (ha.block q hq).symm⟩
theorem norm_yes {k : CfA} {w0 w : World} (h : k.ok w0) (hW : Below w0.heap.size w0 w) (hc : cfgC k = true) : Calls Tryz.prog 22 #[.agg (kCells k)] w (fun e w' => Below w.heap.size w w' ∧ ∃ k2 : CfA, e = .returned (.tuple #[.agg (kCells k2), .int .i64 0]) ∧ (∀ W, Keep w0.heap.size w w' W → k2.ok W) ∧ NormOf k k2) := by
  refine (cfgNormal_any k w w0.heap.size hW.size (fun W hw => h.call (hW.trans hw))).mono fun e w' ⟨hb, hh⟩ => ⟨hb, ?_⟩
  rcases hh with ⟨_, h⟩ | ⟨h, _⟩
  · exact h
  · rw [hc] at h
    cases h
theorem norm_no {k : CfA} {w0 w : World} (h : k.ok w0) (hW : Below w0.heap.size w0 w) (hc : cfgC k = false) : Calls Tryz.prog 22 #[.agg (kCells k)] w (fun e w' => Below w.heap.size w w' ∧ e = .returned (.tuple #[.agg zCfg, .int .i64 1])) := by
  refine (cfgNormal_any k w w0.heap.size hW.size (fun W hw => h.call (hW.trans hw))).mono fun e w' ⟨hb, hh⟩ => ⟨hb, ?_⟩
  rcases hh with ⟨h, _⟩ | ⟨_, h⟩
  · rw [hc] at h
    cases h
  · exact h
set_option maxHeartbeats 25600000 in
set_option maxRecDepth 100000 in
theorem cfgSame_any (a b : CfA) (w : World) (hka : a.ok w) (hkb : b.ok w) : Calls Tryz.prog 24 #[.agg (kCells a), .agg (kCells b)] w (SameP a b w) := by
  obtain ⟨Q, hQ⟩ : ∃ Q, Q = SameP a b w := ⟨_, rfl⟩
  have HQ := Lib.hid hQ
  rw [← hQ]
  have hb1 := (Below.refl w.heap.size w).alloc (Nat.le_refl _) (.cells (kCells a) 31)
  have hb2 := balR (o := .cells (kCells b) 31) hb1
  have hA := (Blk.new w 31 (kCells a)).alloc (.cells (kCells b) 31)
  have hZ := nbR w (.cells (kCells a) 31) (kCells b) 31
  have HY1 := Lib.hid (fun (hc : cfgC a = true) W (hW : Below w.heap.size w W) => norm_yes hka hW hc)
  have HY2 := Lib.hid (fun (hc : cfgC b = true) W (hW : Below w.heap.size w W) => norm_yes hkb hW hc)
  have HN1 := Lib.hid (fun (hc : cfgC a = false) W (hW : Below w.heap.size w W) => norm_no hka hW hc)
  have HN2 := Lib.hid (fun (hc : cfgC b = false) W (hW : Below w.heap.size w W) => norm_no hkb hW hc)
  have HB := Lib.hid hb2
  obtain ⟨A, hcA⟩ : ∃ B, cfgC a = B := ⟨_, rfl⟩
  obtain ⟨B, hcB⟩ : ∃ B, cfgC b = B := ⟨_, rfl⟩
  have HCA := Lib.hid hcA
  have HCB := Lib.hid hcB
  rw [hcA] at HY1 HN1
  rw [hcB] at HY2 HN2
  clear hb1 hb2 hka hkb hQ hcA hcB
  obtain ⟨ru1, ua1, uc1, ⟨n1, ma1, mc1, ba1, bc1, mu1, mv1, ka1, kc1⟩, re1, ra1, rc1, ih1, ia1, ic1, hr1, ha1, hc1⟩ := a
  obtain ⟨ru2, ua2, uc2, ⟨n2, ma2, mc2, ba2, bc2, mu2, mv2, ka2, kc2⟩, re2, ra2, rc2, ih2, ia2, ic2, hr2, ha2, hc2⟩ := b
  simp only [kCells] at HY1 HY2 HN1 HN2 hA hZ HB ⊢
  go_enter Tryz.func24, Tryz.ntmps24
  go_upto_region 1 with fail
  generalize (w.alloc (.cells #[.slice ua1 ru1.length uc1, .string n1.recv, .slice ma1 n1.ms.length mc1, .slice ba1 n1.bys.length bc1, .int .i64 n1.wait, .int .i64 n1.every, .int .i64 n1.rep, .slice mu1 n1.mute.length mv1, .bool n1.on, .slice ka1 n1.kids.length kc1, .slice ra1 re1.length rc1, .slice ia1 ih1.length ic1, .slice ha1 hr1.length hc1] 31)).alloc (.cells #[.slice ua2 ru2.length uc2, .string n2.recv, .slice ma2 n2.ms.length mc2, .slice ba2 n2.bys.length bc2, .int .i64 n2.wait, .int .i64 n2.every, .int .i64 n2.rep, .slice mu2 n2.mute.length mv2, .bool n2.on, .slice ka2 n2.kids.length kc2, .slice ra2 re2.length rc2, .slice ia2 ih2.length ic2, .slice ha2 hr2.length hc2] 31) = wx at *
  obtain ⟨g, hg⟩ : ∃ g, w.heap.size = g := ⟨_, rfl⟩
  have HG : Hid (w.heap.size ≤ g) := by show _ ≤ _; omega
  rw [hg] at hA hZ ⊢
  clear hg
  cases A
  case false =>
    have hAH := Lib.hid hA
    have hZH := Lib.hid hZ
    obtain ⟨c0, c1, c2, c3, c4, c5, c6, c7, c8, c9, c10, c11, c12⟩ := hA.cells13
    clear hA hZ
    go_upto_region 2 with (go_at_call 22; refine (HN1.out rfl _ HB.out).mono ?_; rintro e wn1 ⟨hbn, rfl⟩; obtain ⟨d0, d1, d2, d3, d4, d5, d6, d7, d8, d9, d10, d11, d12⟩ := (hAH.out.call hbn).cells13; have f0 := (hAH.out.call hbn).frozen 0; have f1 := (hAH.out.call hbn).frozen 1; have f2 := (hAH.out.call hbn).frozen 2; have f3 := (hAH.out.call hbn).frozen 3; have f4 := (hAH.out.call hbn).frozen 4; have f5 := (hAH.out.call hbn).frozen 5; have f6 := (hAH.out.call hbn).frozen 6; have f7 := (hAH.out.call hbn).frozen 7; have f8 := (hAH.out.call hbn).frozen 8; have f9 := (hAH.out.call hbn).frozen 9; have f10 := (hAH.out.call hbn).frozen 10; have f11 := (hAH.out.call hbn).frozen 11; have f12 := (hAH.out.call hbn).frozen 12)
    generalize hWF : (((((((((((((wn1.setCell ⟨g, 0, none⟩ (.slice none 0 0)).setCell ⟨g, 1, none⟩ (.string ⟨#[]⟩)).setCell ⟨g, 2, none⟩ (.slice none 0 0)).setCell ⟨g, 3, none⟩ (.slice none 0 0)).setCell ⟨g, 4, none⟩ (.int .i64 0)).setCell ⟨g, 5, none⟩ (.int .i64 0)).setCell ⟨g, 6, none⟩ (.int .i64 0)).setCell ⟨g, 7, none⟩ (.slice none 0 0)).setCell ⟨g, 8, none⟩ (.bool false)).setCell ⟨g, 9, none⟩ (.slice none 0 0)).setCell ⟨g, 10, none⟩ (.slice none 0 0)).setCell ⟨g, 11, none⟩ (.slice none 0 0)).setCell ⟨g, 12, none⟩ (.slice none 0 0)) = w3 at *
    obtain ⟨s1, s2, s3⟩ := st13 (hAH.out.call hbn) (.slice none 0 0) (.string ⟨#[]⟩) (.slice none 0 0) (.slice none 0 0) (.int .i64 0) (.int .i64 0) (.int .i64 0) (.slice none 0 0) (.bool false) (.slice none 0 0) (.slice none 0 0) (.slice none 0 0) (.slice none 0 0) w3 hWF.symm
    have HB2 := Lib.hid (s3 w.heap.size (by have := HG.out; omega) w (bthen HB.out hbn))
    have HS21 := Lib.hid s2
    have HZ31 := Lib.hid (s3 g (by omega) wn1 (Below.refl _ _)).size
    have HBN1 := Lib.hid hbn
    have hA := s1
    have hZ := (s2 (g + 1) (by omega)).trans (hZH.out.call hbn)
    have hZ : Blk w3 (g + 1) 31 #[.slice ua2 ru2.length uc2, .string n2.recv, .slice ma2 n2.ms.length mc2, .slice ba2 n2.bys.length bc2, .int .i64 n2.wait, .int .i64 n2.every, .int .i64 n2.rep, .slice mu2 n2.mute.length mv2, .bool n2.on, .slice ka2 n2.kids.length kc2, .slice ra2 re2.length rc2, .slice ia2 ih2.length ic2, .slice ha2 hr2.length hc2] := hZ
    clear hWF s1 s2 s3 hbn hAH hZH c0 d0 f0 c1 d1 f1 c2 d2 f2 c3 d3 f3 c4 d4 f4 c5 d5 f5 c6 d6 f6 c7 d7 f7 c8 d8 f8 c9 d9 f9 c10 d10 f10 c11 d11 f11 c12 d12 f12
    cases B
    case false =>
      have hZH := Lib.hid hZ
      have hAH := Lib.hid hA
      obtain ⟨c0, c1, c2, c3, c4, c5, c6, c7, c8, c9, c10, c11, c12⟩ := hZ.cells13
      clear hZ hA
      go_upto_region 3 with (go_at_call 22; refine (HN2.out rfl _ HB2.out).mono ?_; rintro e wn2 ⟨hbn, rfl⟩; obtain ⟨d0, d1, d2, d3, d4, d5, d6, d7, d8, d9, d10, d11, d12⟩ := (hZH.out.call hbn).cells13; have f0 := (hZH.out.call hbn).frozen 0; have f1 := (hZH.out.call hbn).frozen 1; have f2 := (hZH.out.call hbn).frozen 2; have f3 := (hZH.out.call hbn).frozen 3; have f4 := (hZH.out.call hbn).frozen 4; have f5 := (hZH.out.call hbn).frozen 5; have f6 := (hZH.out.call hbn).frozen 6; have f7 := (hZH.out.call hbn).frozen 7; have f8 := (hZH.out.call hbn).frozen 8; have f9 := (hZH.out.call hbn).frozen 9; have f10 := (hZH.out.call hbn).frozen 10; have f11 := (hZH.out.call hbn).frozen 11; have f12 := (hZH.out.call hbn).frozen 12)
      generalize hWF : (((((((((((((wn2.setCell ⟨g + 1, 0, none⟩ (.slice none 0 0)).setCell ⟨g + 1, 1, none⟩ (.string ⟨#[]⟩)).setCell ⟨g + 1, 2, none⟩ (.slice none 0 0)).setCell ⟨g + 1, 3, none⟩ (.slice none 0 0)).setCell ⟨g + 1, 4, none⟩ (.int .i64 0)).setCell ⟨g + 1, 5, none⟩ (.int .i64 0)).setCell ⟨g + 1, 6, none⟩ (.int .i64 0)).setCell ⟨g + 1, 7, none⟩ (.slice none 0 0)).setCell ⟨g + 1, 8, none⟩ (.bool false)).setCell ⟨g + 1, 9, none⟩ (.slice none 0 0)).setCell ⟨g + 1, 10, none⟩ (.slice none 0 0)).setCell ⟨g + 1, 11, none⟩ (.slice none 0 0)).setCell ⟨g + 1, 12, none⟩ (.slice none 0 0)) = w4 at *
      obtain ⟨s1, s2, s3⟩ := st13 (hZH.out.call hbn) (.slice none 0 0) (.string ⟨#[]⟩) (.slice none 0 0) (.slice none 0 0) (.int .i64 0) (.int .i64 0) (.int .i64 0) (.slice none 0 0) (.bool false) (.slice none 0 0) (.slice none 0 0) (.slice none 0 0) (.slice none 0 0) w4 hWF.symm
      have HB3 := Lib.hid (s3 w.heap.size (by have := HG.out; omega) w (bthen HB2.out hbn))
      have HS22 := Lib.hid s2
      have HZ32 := Lib.hid (s3 g (by omega) wn2 (Below.refl _ _)).size
      have HBN2 := Lib.hid hbn
      have hZ := s1
      have hA := (s2 g (by omega)).trans (hAH.out.call hbn)
      have hA : Blk w4 g 31 #[.slice none 0 0, .string ⟨#[]⟩, .slice none 0 0, .slice none 0 0, .int .i64 0, .int .i64 0, .int .i64 0, .slice none 0 0, .bool false, .slice none 0 0, .slice none 0 0, .slice none 0 0, .slice none 0 0] := hA
      clear hWF s1 s2 s3 c0 d0 f0 c1 d1 f1 c2 d2 f2 c3 d3 f3 c4 d4 f4 c5 d5 f5 c6 d6 f6 c7 d7 f7 c8 d8 f8 c9 d9 f9 c10 d10 f10 c11 d11 f11 c12 d12 f12
      go_wp2_with fail
      rw [HQ.out]
      exact ⟨HB3.out, false, rfl, .inl ⟨.inl HCA.out, rfl⟩⟩
    case true =>
      have hZH := Lib.hid hZ
      have hAH := Lib.hid hA
      obtain ⟨c0, c1, c2, c3, c4, c5, c6, c7, c8, c9, c10, c11, c12⟩ := hZ.cells13
      clear hZ hA
      go_upto_region 3 with (go_at_call 22; refine (HY2.out rfl _ HB2.out).mono ?_; rintro e wn2 ⟨hbn, ⟨ru4, ua4, uc4, ⟨n4, ma4, mc4, ba4, bc4, mu4, mv4, ka4, kc4⟩, re4, ra4, rc4, ih4, ia4, ic4, hr4, ha4, hc4⟩, rfl, hk4, hno4⟩; obtain ⟨d0, d1, d2, d3, d4, d5, d6, d7, d8, d9, d10, d11, d12⟩ := (hZH.out.call hbn).cells13; have f0 := (hZH.out.call hbn).frozen 0; have f1 := (hZH.out.call hbn).frozen 1; have f2 := (hZH.out.call hbn).frozen 2; have f3 := (hZH.out.call hbn).frozen 3; have f4 := (hZH.out.call hbn).frozen 4; have f5 := (hZH.out.call hbn).frozen 5; have f6 := (hZH.out.call hbn).frozen 6; have f7 := (hZH.out.call hbn).frozen 7; have f8 := (hZH.out.call hbn).frozen 8; have f9 := (hZH.out.call hbn).frozen 9; have f10 := (hZH.out.call hbn).frozen 10; have f11 := (hZH.out.call hbn).frozen 11; have f12 := (hZH.out.call hbn).frozen 12)
      generalize hWF : (((((((((((((wn2.setCell ⟨g + 1, 0, none⟩ (.slice ua4 ru4.length uc4)).setCell ⟨g + 1, 1, none⟩ (.string n4.recv)).setCell ⟨g + 1, 2, none⟩ (.slice ma4 n4.ms.length mc4)).setCell ⟨g + 1, 3, none⟩ (.slice ba4 n4.bys.length bc4)).setCell ⟨g + 1, 4, none⟩ (.int .i64 n4.wait)).setCell ⟨g + 1, 5, none⟩ (.int .i64 n4.every)).setCell ⟨g + 1, 6, none⟩ (.int .i64 n4.rep)).setCell ⟨g + 1, 7, none⟩ (.slice mu4 n4.mute.length mv4)).setCell ⟨g + 1, 8, none⟩ (.bool n4.on)).setCell ⟨g + 1, 9, none⟩ (.slice ka4 n4.kids.length kc4)).setCell ⟨g + 1, 10, none⟩ (.slice ra4 re4.length rc4)).setCell ⟨g + 1, 11, none⟩ (.slice ia4 ih4.length ic4)).setCell ⟨g + 1, 12, none⟩ (.slice ha4 hr4.length hc4)) = w4 at *
      obtain ⟨s1, s2, s3⟩ := st13 (hZH.out.call hbn) (.slice ua4 ru4.length uc4) (.string n4.recv) (.slice ma4 n4.ms.length mc4) (.slice ba4 n4.bys.length bc4) (.int .i64 n4.wait) (.int .i64 n4.every) (.int .i64 n4.rep) (.slice mu4 n4.mute.length mv4) (.bool n4.on) (.slice ka4 n4.kids.length kc4) (.slice ra4 re4.length rc4) (.slice ia4 ih4.length ic4) (.slice ha4 hr4.length hc4) w4 hWF.symm
      have HB3 := Lib.hid (s3 w.heap.size (by have := HG.out; omega) w (bthen HB2.out hbn))
      have HS22 := Lib.hid s2
      have HZ32 := Lib.hid (s3 g (by omega) wn2 (Below.refl _ _)).size
      have HBN2 := Lib.hid hbn
      have hZ := s1
      have hA := (s2 g (by omega)).trans (hAH.out.call hbn)
      have hA : Blk w4 g 31 #[.slice none 0 0, .string ⟨#[]⟩, .slice none 0 0, .slice none 0 0, .int .i64 0, .int .i64 0, .int .i64 0, .slice none 0 0, .bool false, .slice none 0 0, .slice none 0 0, .slice none 0 0, .slice none 0 0] := hA
      clear hWF s1 s2 s3 c0 d0 f0 c1 d1 f1 c2 d2 f2 c3 d3 f3 c4 d4 f4 c5 d5 f5 c6 d6 f6 c7 d7 f7 c8 d8 f8 c9 d9 f9 c10 d10 f10 c11 d11 f11 c12 d12 f12
      go_wp2_with fail
      rw [HQ.out]
      exact ⟨HB3.out, false, rfl, .inl ⟨.inl HCA.out, rfl⟩⟩
  case true =>
    have hAH := Lib.hid hA
    have hZH := Lib.hid hZ
    obtain ⟨c0, c1, c2, c3, c4, c5, c6, c7, c8, c9, c10, c11, c12⟩ := hA.cells13
    clear hA hZ
    go_upto_region 2 with (go_at_call 22; refine (HY1.out rfl _ HB.out).mono ?_; rintro e wn1 ⟨hbn, ⟨ru3, ua3, uc3, ⟨n3, ma3, mc3, ba3, bc3, mu3, mv3, ka3, kc3⟩, re3, ra3, rc3, ih3, ia3, ic3, hr3, ha3, hc3⟩, rfl, hk3, hno3⟩; obtain ⟨d0, d1, d2, d3, d4, d5, d6, d7, d8, d9, d10, d11, d12⟩ := (hAH.out.call hbn).cells13; have f0 := (hAH.out.call hbn).frozen 0; have f1 := (hAH.out.call hbn).frozen 1; have f2 := (hAH.out.call hbn).frozen 2; have f3 := (hAH.out.call hbn).frozen 3; have f4 := (hAH.out.call hbn).frozen 4; have f5 := (hAH.out.call hbn).frozen 5; have f6 := (hAH.out.call hbn).frozen 6; have f7 := (hAH.out.call hbn).frozen 7; have f8 := (hAH.out.call hbn).frozen 8; have f9 := (hAH.out.call hbn).frozen 9; have f10 := (hAH.out.call hbn).frozen 10; have f11 := (hAH.out.call hbn).frozen 11; have f12 := (hAH.out.call hbn).frozen 12)
    generalize hWF : (((((((((((((wn1.setCell ⟨g, 0, none⟩ (.slice ua3 ru3.length uc3)).setCell ⟨g, 1, none⟩ (.string n3.recv)).setCell ⟨g, 2, none⟩ (.slice ma3 n3.ms.length mc3)).setCell ⟨g, 3, none⟩ (.slice ba3 n3.bys.length bc3)).setCell ⟨g, 4, none⟩ (.int .i64 n3.wait)).setCell ⟨g, 5, none⟩ (.int .i64 n3.every)).setCell ⟨g, 6, none⟩ (.int .i64 n3.rep)).setCell ⟨g, 7, none⟩ (.slice mu3 n3.mute.length mv3)).setCell ⟨g, 8, none⟩ (.bool n3.on)).setCell ⟨g, 9, none⟩ (.slice ka3 n3.kids.length kc3)).setCell ⟨g, 10, none⟩ (.slice ra3 re3.length rc3)).setCell ⟨g, 11, none⟩ (.slice ia3 ih3.length ic3)).setCell ⟨g, 12, none⟩ (.slice ha3 hr3.length hc3)) = w3 at *
    obtain ⟨s1, s2, s3⟩ := st13 (hAH.out.call hbn) (.slice ua3 ru3.length uc3) (.string n3.recv) (.slice ma3 n3.ms.length mc3) (.slice ba3 n3.bys.length bc3) (.int .i64 n3.wait) (.int .i64 n3.every) (.int .i64 n3.rep) (.slice mu3 n3.mute.length mv3) (.bool n3.on) (.slice ka3 n3.kids.length kc3) (.slice ra3 re3.length rc3) (.slice ia3 ih3.length ic3) (.slice ha3 hr3.length hc3) w3 hWF.symm
    have HB2 := Lib.hid (s3 w.heap.size (by have := HG.out; omega) w (bthen HB.out hbn))
    have HS21 := Lib.hid s2
    have HZ31 := Lib.hid (s3 g (by omega) wn1 (Below.refl _ _)).size
    have HBN1 := Lib.hid hbn
    have hA := s1
    have hZ := (s2 (g + 1) (by omega)).trans (hZH.out.call hbn)
    have hZ : Blk w3 (g + 1) 31 #[.slice ua2 ru2.length uc2, .string n2.recv, .slice ma2 n2.ms.length mc2, .slice ba2 n2.bys.length bc2, .int .i64 n2.wait, .int .i64 n2.every, .int .i64 n2.rep, .slice mu2 n2.mute.length mv2, .bool n2.on, .slice ka2 n2.kids.length kc2, .slice ra2 re2.length rc2, .slice ia2 ih2.length ic2, .slice ha2 hr2.length hc2] := hZ
    have HK3 := Lib.hid hk3
    have HN3 := Lib.hid hno3
    have HGZ1 := Lib.hid (And.intro hAH.out.lt hZH.out.lt)
    clear hk3 hno3
    clear hWF s1 s2 s3 hbn hAH hZH c0 d0 f0 c1 d1 f1 c2 d2 f2 c3 d3 f3 c4 d4 f4 c5 d5 f5 c6 d6 f6 c7 d7 f7 c8 d8 f8 c9 d9 f9 c10 d10 f10 c11 d11 f11 c12 d12 f12
    cases B
    case false =>
      have hZH := Lib.hid hZ
      have hAH := Lib.hid hA
      obtain ⟨c0, c1, c2, c3, c4, c5, c6, c7, c8, c9, c10, c11, c12⟩ := hZ.cells13
      clear hZ hA
      go_upto_region 3 with (go_at_call 22; refine (HN2.out rfl _ HB2.out).mono ?_; rintro e wn2 ⟨hbn, rfl⟩; obtain ⟨d0, d1, d2, d3, d4, d5, d6, d7, d8, d9, d10, d11, d12⟩ := (hZH.out.call hbn).cells13; have f0 := (hZH.out.call hbn).frozen 0; have f1 := (hZH.out.call hbn).frozen 1; have f2 := (hZH.out.call hbn).frozen 2; have f3 := (hZH.out.call hbn).frozen 3; have f4 := (hZH.out.call hbn).frozen 4; have f5 := (hZH.out.call hbn).frozen 5; have f6 := (hZH.out.call hbn).frozen 6; have f7 := (hZH.out.call hbn).frozen 7; have f8 := (hZH.out.call hbn).frozen 8; have f9 := (hZH.out.call hbn).frozen 9; have f10 := (hZH.out.call hbn).frozen 10; have f11 := (hZH.out.call hbn).frozen 11; have f12 := (hZH.out.call hbn).frozen 12)
      generalize hWF : (((((((((((((wn2.setCell ⟨g + 1, 0, none⟩ (.slice none 0 0)).setCell ⟨g + 1, 1, none⟩ (.string ⟨#[]⟩)).setCell ⟨g + 1, 2, none⟩ (.slice none 0 0)).setCell ⟨g + 1, 3, none⟩ (.slice none 0 0)).setCell ⟨g + 1, 4, none⟩ (.int .i64 0)).setCell ⟨g + 1, 5, none⟩ (.int .i64 0)).setCell ⟨g + 1, 6, none⟩ (.int .i64 0)).setCell ⟨g + 1, 7, none⟩ (.slice none 0 0)).setCell ⟨g + 1, 8, none⟩ (.bool false)).setCell ⟨g + 1, 9, none⟩ (.slice none 0 0)).setCell ⟨g + 1, 10, none⟩ (.slice none 0 0)).setCell ⟨g + 1, 11, none⟩ (.slice none 0 0)).setCell ⟨g + 1, 12, none⟩ (.slice none 0 0)) = w4 at *
      obtain ⟨s1, s2, s3⟩ := st13 (hZH.out.call hbn) (.slice none 0 0) (.string ⟨#[]⟩) (.slice none 0 0) (.slice none 0 0) (.int .i64 0) (.int .i64 0) (.int .i64 0) (.slice none 0 0) (.bool false) (.slice none 0 0) (.slice none 0 0) (.slice none 0 0) (.slice none 0 0) w4 hWF.symm
      have HB3 := Lib.hid (s3 w.heap.size (by have := HG.out; omega) w (bthen HB2.out hbn))
      have HS22 := Lib.hid s2
      have HZ32 := Lib.hid (s3 g (by omega) wn2 (Below.refl _ _)).size
      have HBN2 := Lib.hid hbn
      have hZ := s1
      have hA := (s2 g (by omega)).trans (hAH.out.call hbn)
      have hA : Blk w4 g 31 #[.slice ua3 ru3.length uc3, .string n3.recv, .slice ma3 n3.ms.length mc3, .slice ba3 n3.bys.length bc3, .int .i64 n3.wait, .int .i64 n3.every, .int .i64 n3.rep, .slice mu3 n3.mute.length mv3, .bool n3.on, .slice ka3 n3.kids.length kc3, .slice ra3 re3.length rc3, .slice ia3 ih3.length ic3, .slice ha3 hr3.length hc3] := hA
      clear hWF s1 s2 s3 c0 d0 f0 c1 d1 f1 c2 d2 f2 c3 d3 f3 c4 d4 f4 c5 d5 f5 c6 d6 f6 c7 d7 f7 c8 d8 f8 c9 d9 f9 c10 d10 f10 c11 d11 f11 c12 d12 f12
      go_wp2_with fail
      rw [HQ.out]
      exact ⟨HB3.out, false, rfl, .inl ⟨.inr HCB.out, rfl⟩⟩
    case true =>
      have hZH := Lib.hid hZ
      have hAH := Lib.hid hA
      obtain ⟨c0, c1, c2, c3, c4, c5, c6, c7, c8, c9, c10, c11, c12⟩ := hZ.cells13
      clear hZ hA
      go_upto_region 3 with (go_at_call 22; refine (HY2.out rfl _ HB2.out).mono ?_; rintro e wn2 ⟨hbn, ⟨ru4, ua4, uc4, ⟨n4, ma4, mc4, ba4, bc4, mu4, mv4, ka4, kc4⟩, re4, ra4, rc4, ih4, ia4, ic4, hr4, ha4, hc4⟩, rfl, hk4, hno4⟩; obtain ⟨d0, d1, d2, d3, d4, d5, d6, d7, d8, d9, d10, d11, d12⟩ := (hZH.out.call hbn).cells13; have f0 := (hZH.out.call hbn).frozen 0; have f1 := (hZH.out.call hbn).frozen 1; have f2 := (hZH.out.call hbn).frozen 2; have f3 := (hZH.out.call hbn).frozen 3; have f4 := (hZH.out.call hbn).frozen 4; have f5 := (hZH.out.call hbn).frozen 5; have f6 := (hZH.out.call hbn).frozen 6; have f7 := (hZH.out.call hbn).frozen 7; have f8 := (hZH.out.call hbn).frozen 8; have f9 := (hZH.out.call hbn).frozen 9; have f10 := (hZH.out.call hbn).frozen 10; have f11 := (hZH.out.call hbn).frozen 11; have f12 := (hZH.out.call hbn).frozen 12)
      generalize hWF : (((((((((((((wn2.setCell ⟨g + 1, 0, none⟩ (.slice ua4 ru4.length uc4)).setCell ⟨g + 1, 1, none⟩ (.string n4.recv)).setCell ⟨g + 1, 2, none⟩ (.slice ma4 n4.ms.length mc4)).setCell ⟨g + 1, 3, none⟩ (.slice ba4 n4.bys.length bc4)).setCell ⟨g + 1, 4, none⟩ (.int .i64 n4.wait)).setCell ⟨g + 1, 5, none⟩ (.int .i64 n4.every)).setCell ⟨g + 1, 6, none⟩ (.int .i64 n4.rep)).setCell ⟨g + 1, 7, none⟩ (.slice mu4 n4.mute.length mv4)).setCell ⟨g + 1, 8, none⟩ (.bool n4.on)).setCell ⟨g + 1, 9, none⟩ (.slice ka4 n4.kids.length kc4)).setCell ⟨g + 1, 10, none⟩ (.slice ra4 re4.length rc4)).setCell ⟨g + 1, 11, none⟩ (.slice ia4 ih4.length ic4)).setCell ⟨g + 1, 12, none⟩ (.slice ha4 hr4.length hc4)) = w4 at *
      obtain ⟨s1, s2, s3⟩ := st13 (hZH.out.call hbn) (.slice ua4 ru4.length uc4) (.string n4.recv) (.slice ma4 n4.ms.length mc4) (.slice ba4 n4.bys.length bc4) (.int .i64 n4.wait) (.int .i64 n4.every) (.int .i64 n4.rep) (.slice mu4 n4.mute.length mv4) (.bool n4.on) (.slice ka4 n4.kids.length kc4) (.slice ra4 re4.length rc4) (.slice ia4 ih4.length ic4) (.slice ha4 hr4.length hc4) w4 hWF.symm
      have HB3 := Lib.hid (s3 w.heap.size (by have := HG.out; omega) w (bthen HB2.out hbn))
      have HS22 := Lib.hid s2
      have HZ32 := Lib.hid (s3 g (by omega) wn2 (Below.refl _ _)).size
      have HBN2 := Lib.hid hbn
      have hZ := s1
      have hA := (s2 g (by omega)).trans (hAH.out.call hbn)
      have hA : Blk w4 g 31 #[.slice ua3 ru3.length uc3, .string n3.recv, .slice ma3 n3.ms.length mc3, .slice ba3 n3.bys.length bc3, .int .i64 n3.wait, .int .i64 n3.every, .int .i64 n3.rep, .slice mu3 n3.mute.length mv3, .bool n3.on, .slice ka3 n3.kids.length kc3, .slice ra3 re3.length rc3, .slice ia3 ih3.length ic3, .slice ha3 hr3.length hc3] := hA
      clear hWF s1 s2 s3 c0 d0 f0 c1 d1 f1 c2 d2 f2 c3 d3 f3 c4 d4 f4 c5 d5 f5 c6 d6 f6 c7 d7 f7 c8 d8 f8 c9 d9 f9 c10 d10 f10 c11 d11 f11 c12 d12 f12
      have HK4 := Lib.hid hk4
      have HN4 := Lib.hid hno4
      have HGZ2 := Lib.hid (And.intro hAH.out.lt hZH.out.lt)
      clear hk4 hno4 hbn
      have HO3 : Hid (∀ W, Below w4.heap.size w4 W → (⟨ru3, ua3, uc3, ⟨n3, ma3, mc3, ba3, bc3, mu3, mv3, ka3, kc3⟩, re3, ra3, rc3, ih3, ia3, ic3, hr3, ha3, hc3⟩ : CfA).ok W) := fun W hW => HK3.out W ⟨below_back HB.out (HB3.out.trans (hW.mono HB3.out.size)) (by have := HBN1.out.size; have := HZ31.out; have := HBN2.out.size; have := HZ32.out; have := hW.size; omega), (by have := HZ31.out; have := HBN2.out.size; have := HZ32.out; have := hW.size; omega), fun q h1 h2 => by
        have h3 := HGZ1.out
        have h4 := HZ31.out
        have h5 := HBN2.out.size
        have h6 := HZ32.out
        rw [hW.block q (by omega), HS22.out q (by omega), HBN2.out.block q (by omega), HS21.out q (by omega)]⟩
      have HO4 : Hid (∀ W, Below w4.heap.size w4 W → (⟨ru4, ua4, uc4, ⟨n4, ma4, mc4, ba4, bc4, mu4, mv4, ka4, kc4⟩, re4, ra4, rc4, ih4, ia4, ic4, hr4, ha4, hc4⟩ : CfA).ok W) := fun W hW => HK4.out W ⟨below_back HB2.out (HB3.out.trans (hW.mono HB3.out.size)) (by have := HBN2.out.size; have := HZ32.out; have := hW.size; omega), (by have := HZ32.out; have := hW.size; omega), fun q h1 h2 => by
        have h3 := HGZ2.out
        have h6 := HZ32.out
        rw [hW.block q (by omega), HS22.out q (by omega)]⟩
      obtain ⟨X1, hX1⟩ : ∃ X, eqB (ru3.map RuA.r = ru4.map RuA.r) = X := ⟨_, rfl⟩
      obtain ⟨X2, hX2⟩ : ∃ X, eqB (n3 = n4) = X := ⟨_, rfl⟩
      obtain ⟨X3, hX3⟩ : ∃ X, decide (re3 = re4) = X := ⟨_, rfl⟩
      obtain ⟨X4, hX4⟩ : ∃ X, eqB (ih3.map InA.val = ih4.map InA.val) = X := ⟨_, rfl⟩
      obtain ⟨X5, hX5⟩ : ∃ X, eqB (hr3 = hr4) = X := ⟨_, rfl⟩
      have H1 := fun W (hW : Below w4.heap.size w4 W) => eqRowR_any ua3 ua4 uc3 uc4 ru3 ru4 W (HO3.out W hW).1 (HO4.out W hW).1
      have H2 := fun W (hW : Below w4.heap.size w4 W) => routesLike_any ⟨n3, ma3, mc3, ba3, bc3, mu3, mv3, ka3, kc3⟩ ⟨n4, ma4, mc4, ba4, bc4, mu4, mv4, ka4, kc4⟩ W (HO3.out W hW).2.1 (HO4.out W hW).2.1
      have H3 := fun W (hW : Below w4.heap.size w4 W) => equalD_any ra3 ra4 rc3 rc4 re3 re4 W (HO3.out W hW).2.2.1 (HO4.out W hW).2.2.1
      have H4 := fun W (hW : Below w4.heap.size w4 W) => eqRowI_any ia3 ia4 ic3 ic4 ih3 ih4 W (HO3.out W hW).2.2.2.1 (HO4.out W hW).2.2.2.1
      have H5 := fun W (hW : Below w4.heap.size w4 W) => eqRowH_any ha3 ha4 hc3 hc4 hr3 hr4 W (HO3.out W hW).2.2.2.2 (HO4.out W hW).2.2.2.2
      simp only [tCells] at H2
      rw [hX1] at H1
      rw [hX2] at H2
      rw [hX3] at H3
      rw [hX4] at H4
      rw [hX5] at H5
      have HRES : Hid (sameK ⟨ru3, ua3, uc3, ⟨n3, ma3, mc3, ba3, bc3, mu3, mv3, ka3, kc3⟩, re3, ra3, rc3, ih3, ia3, ic3, hr3, ha3, hc3⟩ ⟨ru4, ua4, uc4, ⟨n4, ma4, mc4, ba4, bc4, mu4, mv4, ka4, kc4⟩, re4, ra4, rc4, ih4, ia4, ic4, hr4, ha4, hc4⟩ = (X1 && (X2 && (X3 && (X4 && X5))))) := by
        show sameK _ _ = _
        simp only [sameK]
        rw [hX1, hX2, hX3, hX4, hX5]
      have H1 := Lib.hid H1
      have H2 := Lib.hid H2
      have H3 := Lib.hid H3
      have H4 := Lib.hid H4
      have H5 := Lib.hid H5
      have HA5 := Lib.hid (fun W (hW : Below w4.heap.size w4 W) => (hA.call hW).cells13)
      have HZ5 := Lib.hid (fun W (hW : Below w4.heap.size w4 W) => (hZ.call hW).cells13)
      obtain ⟨c0, c1, c2, c3, c4, c5, c6, c7, c8, c9, c10, c11, c12⟩ := hA.cells13
      obtain ⟨d0, d1, d2, d3, d4, d5, d6, d7, d8, d9, d10, d11, d12⟩ := hZ.cells13
      have hb0 : Below w4.heap.size w4 w4 := Below.refl _ _
      clear hA hZ hX1 hX2 hX3 hX4 hX5
      cases X1
      case false =>
        go_wp2_with (first | (go_at_call 73; (with_reducible refine (H1.out _ hb0).mono ?_); rintro e v1 ⟨rfl, hc1⟩; have hb1 := bthen hb0 hc1; obtain ⟨p1_0, p1_1, p1_2, p1_3, p1_4, p1_5, p1_6, p1_7, p1_8, p1_9, p1_10, p1_11, p1_12⟩ := HA5.out _ hb1; obtain ⟨q1_0, q1_1, q1_2, q1_3, q1_4, q1_5, q1_6, q1_7, q1_8, q1_9, q1_10, q1_11, q1_12⟩ := HZ5.out _ hb1))
        rw [HQ.out]
        exact ⟨HB3.out.trans (hb1.mono HB3.out.size), false, rfl, .inr ⟨HCA.out, HCB.out, _, _, HN3.out, HN4.out, HRES.out.symm⟩⟩
      cases X2
      case false =>
        go_wp2_with (first | (go_at_call 73; (with_reducible refine (H1.out _ hb0).mono ?_); rintro e v1 ⟨rfl, hc1⟩; have hb1 := bthen hb0 hc1; obtain ⟨p1_0, p1_1, p1_2, p1_3, p1_4, p1_5, p1_6, p1_7, p1_8, p1_9, p1_10, p1_11, p1_12⟩ := HA5.out _ hb1; obtain ⟨q1_0, q1_1, q1_2, q1_3, q1_4, q1_5, q1_6, q1_7, q1_8, q1_9, q1_10, q1_11, q1_12⟩ := HZ5.out _ hb1) | (go_at_call 75; (with_reducible refine (H2.out _ hb1).mono ?_); rintro e v2 ⟨rfl, hc2⟩; have hb2 := bthen hb1 hc2; obtain ⟨p2_0, p2_1, p2_2, p2_3, p2_4, p2_5, p2_6, p2_7, p2_8, p2_9, p2_10, p2_11, p2_12⟩ := HA5.out _ hb2; obtain ⟨q2_0, q2_1, q2_2, q2_3, q2_4, q2_5, q2_6, q2_7, q2_8, q2_9, q2_10, q2_11, q2_12⟩ := HZ5.out _ hb2))
        rw [HQ.out]
        exact ⟨HB3.out.trans (hb2.mono HB3.out.size), false, rfl, .inr ⟨HCA.out, HCB.out, _, _, HN3.out, HN4.out, HRES.out.symm⟩⟩
      cases X3
      case false =>
        go_wp2_with (first | (go_at_call 73; (with_reducible refine (H1.out _ hb0).mono ?_); rintro e v1 ⟨rfl, hc1⟩; have hb1 := bthen hb0 hc1; obtain ⟨p1_0, p1_1, p1_2, p1_3, p1_4, p1_5, p1_6, p1_7, p1_8, p1_9, p1_10, p1_11, p1_12⟩ := HA5.out _ hb1; obtain ⟨q1_0, q1_1, q1_2, q1_3, q1_4, q1_5, q1_6, q1_7, q1_8, q1_9, q1_10, q1_11, q1_12⟩ := HZ5.out _ hb1) | (go_at_call 75; (with_reducible refine (H2.out _ hb1).mono ?_); rintro e v2 ⟨rfl, hc2⟩; have hb2 := bthen hb1 hc2; obtain ⟨p2_0, p2_1, p2_2, p2_3, p2_4, p2_5, p2_6, p2_7, p2_8, p2_9, p2_10, p2_11, p2_12⟩ := HA5.out _ hb2; obtain ⟨q2_0, q2_1, q2_2, q2_3, q2_4, q2_5, q2_6, q2_7, q2_8, q2_9, q2_10, q2_11, q2_12⟩ := HZ5.out _ hb2) | (go_at_call 76; (with_reducible refine (H3.out _ hb2).mono ?_); rintro e v3 ⟨rfl, hc3⟩; have hb3 := bthen hb2 hc3; obtain ⟨p3_0, p3_1, p3_2, p3_3, p3_4, p3_5, p3_6, p3_7, p3_8, p3_9, p3_10, p3_11, p3_12⟩ := HA5.out _ hb3; obtain ⟨q3_0, q3_1, q3_2, q3_3, q3_4, q3_5, q3_6, q3_7, q3_8, q3_9, q3_10, q3_11, q3_12⟩ := HZ5.out _ hb3))
        rw [HQ.out]
        exact ⟨HB3.out.trans (hb3.mono HB3.out.size), false, rfl, .inr ⟨HCA.out, HCB.out, _, _, HN3.out, HN4.out, HRES.out.symm⟩⟩
      cases X4
      case false =>
        go_wp2_with (first | (go_at_call 73; (with_reducible refine (H1.out _ hb0).mono ?_); rintro e v1 ⟨rfl, hc1⟩; have hb1 := bthen hb0 hc1; obtain ⟨p1_0, p1_1, p1_2, p1_3, p1_4, p1_5, p1_6, p1_7, p1_8, p1_9, p1_10, p1_11, p1_12⟩ := HA5.out _ hb1; obtain ⟨q1_0, q1_1, q1_2, q1_3, q1_4, q1_5, q1_6, q1_7, q1_8, q1_9, q1_10, q1_11, q1_12⟩ := HZ5.out _ hb1) | (go_at_call 75; (with_reducible refine (H2.out _ hb1).mono ?_); rintro e v2 ⟨rfl, hc2⟩; have hb2 := bthen hb1 hc2; obtain ⟨p2_0, p2_1, p2_2, p2_3, p2_4, p2_5, p2_6, p2_7, p2_8, p2_9, p2_10, p2_11, p2_12⟩ := HA5.out _ hb2; obtain ⟨q2_0, q2_1, q2_2, q2_3, q2_4, q2_5, q2_6, q2_7, q2_8, q2_9, q2_10, q2_11, q2_12⟩ := HZ5.out _ hb2) | (go_at_call 76; (with_reducible refine (H3.out _ hb2).mono ?_); rintro e v3 ⟨rfl, hc3⟩; have hb3 := bthen hb2 hc3; obtain ⟨p3_0, p3_1, p3_2, p3_3, p3_4, p3_5, p3_6, p3_7, p3_8, p3_9, p3_10, p3_11, p3_12⟩ := HA5.out _ hb3; obtain ⟨q3_0, q3_1, q3_2, q3_3, q3_4, q3_5, q3_6, q3_7, q3_8, q3_9, q3_10, q3_11, q3_12⟩ := HZ5.out _ hb3) | (go_at_call 77; (with_reducible refine (H4.out _ hb3).mono ?_); rintro e v4 ⟨rfl, hc4⟩; have hb4 := bthen hb3 hc4; obtain ⟨p4_0, p4_1, p4_2, p4_3, p4_4, p4_5, p4_6, p4_7, p4_8, p4_9, p4_10, p4_11, p4_12⟩ := HA5.out _ hb4; obtain ⟨q4_0, q4_1, q4_2, q4_3, q4_4, q4_5, q4_6, q4_7, q4_8, q4_9, q4_10, q4_11, q4_12⟩ := HZ5.out _ hb4))
        rw [HQ.out]
        exact ⟨HB3.out.trans (hb4.mono HB3.out.size), false, rfl, .inr ⟨HCA.out, HCB.out, _, _, HN3.out, HN4.out, HRES.out.symm⟩⟩
      go_wp2_with (first | (go_at_call 73; (with_reducible refine (H1.out _ hb0).mono ?_); rintro e v1 ⟨rfl, hc1⟩; have hb1 := bthen hb0 hc1; obtain ⟨p1_0, p1_1, p1_2, p1_3, p1_4, p1_5, p1_6, p1_7, p1_8, p1_9, p1_10, p1_11, p1_12⟩ := HA5.out _ hb1; obtain ⟨q1_0, q1_1, q1_2, q1_3, q1_4, q1_5, q1_6, q1_7, q1_8, q1_9, q1_10, q1_11, q1_12⟩ := HZ5.out _ hb1) | (go_at_call 75; (with_reducible refine (H2.out _ hb1).mono ?_); rintro e v2 ⟨rfl, hc2⟩; have hb2 := bthen hb1 hc2; obtain ⟨p2_0, p2_1, p2_2, p2_3, p2_4, p2_5, p2_6, p2_7, p2_8, p2_9, p2_10, p2_11, p2_12⟩ := HA5.out _ hb2; obtain ⟨q2_0, q2_1, q2_2, q2_3, q2_4, q2_5, q2_6, q2_7, q2_8, q2_9, q2_10, q2_11, q2_12⟩ := HZ5.out _ hb2) | (go_at_call 76; (with_reducible refine (H3.out _ hb2).mono ?_); rintro e v3 ⟨rfl, hc3⟩; have hb3 := bthen hb2 hc3; obtain ⟨p3_0, p3_1, p3_2, p3_3, p3_4, p3_5, p3_6, p3_7, p3_8, p3_9, p3_10, p3_11, p3_12⟩ := HA5.out _ hb3; obtain ⟨q3_0, q3_1, q3_2, q3_3, q3_4, q3_5, q3_6, q3_7, q3_8, q3_9, q3_10, q3_11, q3_12⟩ := HZ5.out _ hb3) | (go_at_call 77; (with_reducible refine (H4.out _ hb3).mono ?_); rintro e v4 ⟨rfl, hc4⟩; have hb4 := bthen hb3 hc4; obtain ⟨p4_0, p4_1, p4_2, p4_3, p4_4, p4_5, p4_6, p4_7, p4_8, p4_9, p4_10, p4_11, p4_12⟩ := HA5.out _ hb4; obtain ⟨q4_0, q4_1, q4_2, q4_3, q4_4, q4_5, q4_6, q4_7, q4_8, q4_9, q4_10, q4_11, q4_12⟩ := HZ5.out _ hb4) | (go_at_call 78; (with_reducible refine (H5.out _ hb4).mono ?_); rintro e v5 ⟨rfl, hc5⟩; have hb5 := bthen hb4 hc5; obtain ⟨p5_0, p5_1, p5_2, p5_3, p5_4, p5_5, p5_6, p5_7, p5_8, p5_9, p5_10, p5_11, p5_12⟩ := HA5.out _ hb5; obtain ⟨q5_0, q5_1, q5_2, q5_3, q5_4, q5_5, q5_6, q5_7, q5_8, q5_9, q5_10, q5_11, q5_12⟩ := HZ5.out _ hb5))
      rw [HQ.out]
      exact ⟨HB3.out.trans (hb5.mono HB3.out.size), X5, rfl, .inr ⟨HCA.out, HCB.out, _, _, HN3.out, HN4.out, HRES.out.symm⟩⟩
end Go.Proofs.YtkgnapojkijbgaaGreatDoor
/- The mathematics of ConfigApart: two configurations that may be have one text just if they have one normal form. -/
namespace Go.Proofs.YtkgnapojkijbgaaGreatDoor
open Go.RowKit Go.Lib Go.Sort

theorem numS_inj {a b : Int} (ha : 0 ≤ a) (ha' : a ≤ 1099511627776) (hb : 0 ≤ b) (hb' : b ≤ 1099511627776) (e : numS a = numS b) : a = b := by
  unfold numS at e
  rw [if_neg (by omega), if_neg (by omega)] at e
  have e : numB a.toNat = numB b.toNat := by have := congrArg (fun s : ByteArray => s.data.toList) e; simpa using this
  have := (numR_head _ a.toNat b.toNat [] [] (Nat.le_refl _) (by rw [e])).1
  omega
theorem Rt.ext10 {n m : Rt} (h0 : n.recv = m.recv) (h1 : n.ms = m.ms) (h2 : n.bys = m.bys) (h3 : n.wait = m.wait) (h4 : n.every = m.every) (h5 : n.rep = m.rep) (h6 : n.mute = m.mute) (h7 : n.on = m.on) (h8 : n.kids = m.kids) : n = m := by
  cases n
  cases m
  simp only [Rt.recv, Rt.ms, Rt.bys, Rt.wait, Rt.every, Rt.rep, Rt.mute, Rt.on, Rt.kids] at *
  subst h0 h1 h2 h3 h4 h5 h6 h7 h8
  rfl
theorem rtTs_inj : ∀ (xs ys : List Rt), (∀ x ∈ xs, ∀ y ∈ ys, rtT x = rtT y → x = y) → xs.map rtT = ys.map rtT → xs = ys
  | [], [], _, _ => rfl
  | [], _ :: _, _, e => by cases e
  | _ :: _, [], _, e => by cases e
  | x :: xs, y :: ys, h, e => by
    simp only [List.map_cons, List.cons.injEq] at e
    rw [h x (by simp) y (by simp) e.1, rtTs_inj xs ys (fun a ha b hb => h a (by simp [ha]) b (by simp [hb])) e.2]
theorem inRt_le {n a b : Int} (h : inRt n a b = true) : a ≤ n ∧ n ≤ b := by
  simpa [inRt] using h
theorem rtT_inj : ∀ (d : Nat) (n m : Rt), rightRt d n = true → rightRt d m = true → rtK n = true → rtK m = true → rtT n = rtT m → n = m
  | 0, _, _, h, _, _, _, _ => by cases h
  | d + 1, n, m, h, h', k, k', e => by
    rw [rightRt_succ, Bool.and_eq_true] at h h'
    rw [rtK_eq] at k k'
    simp only [Bool.and_eq_true] at k k'
    obtain ⟨k1, k2, k3, k4, k5, k6⟩ := k
    obtain ⟨l1, l2, l3, l4, l5, l6⟩ := k'
    rw [rtT_eq, rtT_eq] at e
    have e := bindS_inj k6 l6 e
    simp only [List.cons.injEq, and_true] at e
    obtain ⟨e0, e1, e2, e3, e4, e5, e6, e7, e8⟩ := e
    have a := h.1
    have b := h'.1
    simp only [aloneC, matchC, timesC, Bool.and_eq_true] at a b
    obtain ⟨_, ⟨_, a1⟩, _, ⟨a2, a3, a4⟩, _, _⟩ := a
    obtain ⟨_, ⟨_, b1⟩, _, ⟨b2, b3, b4⟩, _, _⟩ := b
    have a2 := inRt_le a2
    have a3 := inRt_le a3
    have a4 := inRt_le a4
    have b2 := inRt_le b2
    have b3 := inRt_le b3
    have b4 := inRt_le b4
    refine Rt.ext10 e0 (textVs_inj a1 b1 (bindS_inj k1 l1 e1)) (bindS_inj k2 l2 e2) (numS_inj (by omega) (by omega) (by omega) (by omega) e4) (numS_inj (by omega) (by omega) (by omega) (by omega) e5) (numS_inj (by omega) (by omega) (by omega) (by omega) e6) (bindS_inj k3 l3 e3) ?_ ?_
    · cases hn : n.on <;> cases hm : m.on <;> rw [hn, hm] at e7 <;> first | rfl | (exact absurd e7 (by decide))
    · have e9 := bindS_inj k5 l5 e8
      rw [rtTs_map, rtTs_map] at e9
      rw [rtKs_all, List.all_eq_true] at k4 l4
      exact rtTs_inj _ _ (fun x hx y hy e => rtT_inj d x y (List.all_eq_true.1 h.2 x hx) (List.all_eq_true.1 h'.2 y hy) (k4 x hx) (l4 y hy) e) e9
theorem ruW_inj : ∀ (xs ys : List RuA), (∀ x ∈ xs, rulC x.r = true) → (∀ y ∈ ys, rulC y.r = true) → ruW xs = ruW ys → xs.map RuA.r = ys.map RuA.r
  | [], [], _, _, _ => rfl
  | [], y :: ys, _, h, e => by
    have := h y (by simp)
    simp [ruW, wordsP, this, wordsL] at e
  | x :: xs, [], h, _, e => by
    have := h x (by simp)
    simp [ruW, wordsP, this, wordsL] at e
  | x :: xs, y :: ys, h, h', e => by
    have g := h x (by simp)
    have g' := h' y (by simp)
    have c : ∀ (z : RuA) (zs : List RuA), rulC z.r = true → ruW (z :: zs) = wordsL z.r ++ ruW zs := fun z zs hz => by
      simp only [ruW, List.flatMap_cons]
      rw [wordsP, if_pos hz]
    rw [c x xs g, c y ys g'] at e
    obtain ⟨e1, e2⟩ := List.append_inj e (by simp [wordsL])
    simp only [List.map_cons]
    rw [words_inj g g' e1, ruW_inj xs ys (fun z hz => h z (by simp [hz])) (fun z hz => h' z (by simp [hz])) e2]
theorem textI_inj {x y : HrA} (hx : HrA.good x = true) (hy : HrA.good y = true) (hn : x.n = y.n) (e : bytA (textI x.n.data.toList x.d x.f x.t).1 = bytA (textI y.n.data.toList y.d y.f y.t).1) : x = y := by
  unfold HrA.good at hx hy
  unfold textI at e
  rw [if_pos hx, if_pos hy] at e
  rw [Bool.and_eq_true] at hx hy
  have sx := hx.2
  have sy := hy.2
  have rx := sx
  have ry := sy
  unfold spanC at rx ry
  rw [decide_eq_true_eq] at rx ry
  have e : textT x.d.toNat x.f.toNat x.t.toNat = textT y.d.toNat y.f.toNat y.t.toNat := by
    have := congrArg (fun s : ByteArray => s.data.toList) e
    simpa [bytA] using this
  have dx : ((x.d.toNat : Nat) : Int) = x.d := by omega
  have fx : ((x.f.toNat : Nat) : Int) = x.f := by omega
  have tx : ((x.t.toNat : Nat) : Int) = x.t := by omega
  have dy : ((y.d.toNat : Nat) : Int) = y.d := by omega
  have fy : ((y.f.toNat : Nat) : Int) = y.f := by omega
  have ty : ((y.t.toNat : Nat) : Int) = y.t := by omega
  have px := parse_text (d := x.d.toNat) (f := x.f.toNat) (t := x.t.toNat) (by rw [dx, fx, tx]; exact sx)
  have py := parse_text (d := y.d.toNat) (f := y.f.toNat) (t := y.t.toNat) (by rw [dy, fy, ty]; exact sy)
  rw [e, py] at px
  simp only [Option.some.injEq, Prod.mk.injEq] at px
  cases x
  cases y
  simp only at *
  obtain ⟨p1, p2, p3⟩ := px
  subst hn
  have : _ = _ := dx
  congr 1 <;> omega
theorem hrW_inj : ∀ (xs ys : List HrA), (∀ x ∈ xs, HrA.good x = true) → (∀ y ∈ ys, HrA.good y = true) → hrW xs = hrW ys → xs = ys
  | [], [], _, _, _ => rfl
  | [], y :: ys, _, _, e => by simp [hrW] at e
  | x :: xs, [], _, _, e => by simp [hrW] at e
  | x :: xs, y :: ys, h, h', e => by
    have c : ∀ (z : HrA) (zs : List HrA), hrW (z :: zs) = z.n :: bytA (textI z.n.data.toList z.d z.f z.t).1 :: hrW zs := fun z zs => by simp [hrW]
    rw [c, c] at e
    simp only [List.cons.injEq] at e
    rw [textI_inj (h x (by simp)) (h' y (by simp)) e.1 e.2.1, hrW_inj xs ys (fun z hz => h z (by simp [hz])) (fun z hz => h' z (by simp [hz])) e.2.2]
theorem inhs_inj : ∀ (xs ys : List InA), (∀ x ∈ xs, InA.good x = true) → (∀ y ∈ ys, InA.good y = true) → xs.map inhT = ys.map inhT → xs.map InA.val = ys.map InA.val
  | [], [], _, _, _ => rfl
  | [], _ :: _, _, _, e => by cases e
  | _ :: _, [], _, _, e => by cases e
  | x :: xs, y :: ys, h, h', e => by
    simp only [List.map_cons, List.cons.injEq] at e ⊢
    obtain ⟨h1, h2, h3⟩ := inhT_inj (h x (by simp)) (h' y (by simp)) e.1
    exact ⟨by unfold InA.val; rw [h1, h2, h3], inhs_inj xs ys (fun z hz => h z (by simp [hz])) (fun z hz => h' z (by simp [hz])) e.2⟩
/-- what a normal form has may be -/
theorem normOf_good {k x : CfA} (hc : cfgC k = true) (h : NormOf k x) : (∀ z ∈ x.ru, rulC z.r = true) ∧ (∀ z ∈ x.hr, HrA.good z = true) ∧ (∀ z ∈ x.ih, InA.good z = true) ∧ rightRt 4 x.rt.n = true := by
  obtain ⟨_, _, _, _, l5⟩ := normOf_small hc h
  simp only [cfgC, Bool.and_eq_true] at hc
  obtain ⟨⟨_, gr⟩, _, _, _, ⟨_, gi⟩, ⟨_, gh⟩, _⟩ := hc
  rw [List.all_eq_true] at gr gi gh
  obtain ⟨_, a2, _, ⟨ys, a4, a5⟩, a6⟩ := h
  refine ⟨fun z hz => gr z (a2.1.mem_iff.1 hz), fun z hz => gh z (a6.1.mem_iff.1 hz), fun z hz => ?_, l5⟩
  rw [a5] at hz
  exact gi z (a4.1.mem_iff.1 (compI_mem hz))
theorem ruW_of {xs ys : List RuA} (e : xs.map RuA.r = ys.map RuA.r) : ruW xs = ruW ys := by
  have h : ∀ zs : List RuA, ruW zs = (zs.map RuA.r).flatMap fun r => (wordsP r).1 := fun zs => by simp [ruW, List.flatMap_map]
  rw [h, h, e]
theorem inhs_of {xs ys : List InA} (e : xs.map InA.val = ys.map InA.val) : xs.map inhT = ys.map inhT := by
  have h : ∀ zs : List InA, zs.map inhT = (zs.map InA.val).map fun v => bindS [bindS (v.1.map textV), bindS (v.2.1.map textV), bindS v.2.2] := fun zs => by
    rw [List.map_map]; rfl
  rw [h, h, e]
/-- one text just if one normal form -/
theorem txt_same {a b x y : CfA} (ha : cfgC a = true) (hb : cfgC b = true) (hx : NormOf a x) (hy : NormOf b y) (kx : txK x = true) (ky : txK y = true) : txS x = txS y ↔ sameK x y = true := by
  obtain ⟨a1, a2, a3, a4⟩ := normOf_good ha hx
  obtain ⟨b1, b2, b3, b4⟩ := normOf_good hb hy
  constructor
  · intro e
    unfold txS at e
    rw [if_pos kx, if_pos ky] at e
    simp only [txK, Bool.and_eq_true] at kx ky
    obtain ⟨p1, p2, p3, p4, p5, p6⟩ := kx
    obtain ⟨q1, q2, q3, q4, q5, q6⟩ := ky
    have e := bindS_inj p6 q6 e
    simp only [txL, List.cons.injEq, and_true] at e
    obtain ⟨e1, e2, e3, e4, e5⟩ := e
    have r1 := ruW_inj _ _ a1 b1 (bindS_inj p1 q1 e1)
    have r2 := bindS_inj p2 q2 e2
    have r3 := hrW_inj _ _ a2 b2 (bindS_inj p3 q3 e3)
    have r4 := inhs_inj _ _ a3 b3 (bindS_inj p4 q4 e4)
    have r5 := rtT_inj 4 _ _ a4 b4 p5 q5 e5
    simp only [sameK, Bool.and_eq_true, eqB_iff, decide_eq_true_eq]
    exact ⟨r1, r5, r2, r4, r3⟩
  · intro e
    simp only [sameK, Bool.and_eq_true, eqB_iff, decide_eq_true_eq] at e
    obtain ⟨r1, r5, r2, r4, r3⟩ := e
    have : txL x = txL y := by unfold txL; rw [ruW_of r1, r2, r3, inhs_of r4, r5]
    unfold txS
    rw [if_pos kx, if_pos ky, this]
end Go.Proofs.YtkgnapojkijbgaaGreatDoor
/- The walk of ConfigApart. -/
namespace Go.Proofs.YtkgnapojkijbgaaGreatDoor
open Go.RowKit

theorem mkS_len (s : ByteArray) : (mkS s).size = 16 := by
  have := markL_len s.data.toList
  show (markL s.data.toList).toArray.size = 16
  rw [List.size_toArray, this]
/-- what Text and Mark of one configuration tell, beside one another -/
theorem text_mark {k : CfA} {S M : ByteArray} {F : Int} (hS : cfgC k = true ∧ ∃ x, NormOf k x ∧ txK x = true ∧ S = txS x)
    (hM : (F = 0 ∧ cfgC k = true ∧ ∃ x, NormOf k x ∧ txK x = true ∧ M = mkS (txS x)) ∨ (F = 2 ∧ cfgC k = true ∧ (∃ x, NormOf k x ∧ txK x = false) ∧ M = ⟨#[]⟩) ∨ (F = 1 ∧ cfgC k = false ∧ M = ⟨#[]⟩)) : F = 0 ∧ M = mkS S := by
  obtain ⟨hc, x, hx, kx, sx⟩ := hS
  rcases hM with ⟨e2, hc2, y, hy, ky, sy⟩ | ⟨e2, hc2, ⟨y, hy, ky⟩, sy⟩ | ⟨e2, hc2, sy⟩
  · exact ⟨e2, by rw [sy, sx, (txS_uniq hc hy hx).1]⟩
  · have := (txS_uniq hc hx hy).2
    rw [kx, ky] at this
    cases this
  · rw [hc] at hc2; cases hc2
set_option maxHeartbeats 25600000 in
set_option maxRecDepth 100000 in
theorem configApart_walk {w : World} (a : CfA) (ha : a.ok w) (b : CfA) (hb : b.ok w) (hw : CfgW w) : Calls Tryz.prog 5 #[.agg (kCells a), .agg (kCells b)] w (fun e w' => e = .returned (.bool true) ∧ Below w.heap.size w w') := by
  have hb1 := (Below.refl w.heap.size w).alloc (Nat.le_refl _) (.cells (kCells a) 31)
  have hb2 := balR (o := .cells (kCells b) 31) hb1
  have hA := (Blk.new w 31 (kCells a)).alloc (.cells (kCells b) 31)
  have hZ := nbR w (.cells (kCells a) 31) (kCells b) 31
  have HBA := Lib.hid (fun W (hW : Below w.heap.size w W) => big_any a W (ha.call hW))
  have HBB := Lib.hid (fun W (hW : Below w.heap.size w W) => big_any b W (hb.call hW))
  have HTA := Lib.hid (fun W (hW : Below w.heap.size w W) => cfgTextR_any a W (ha.call hW) (hw.call hW))
  have HTB := Lib.hid (fun W (hW : Below w.heap.size w W) => cfgTextR_any b W (hb.call hW) (hw.call hW))
  have HMA := Lib.hid (fun W (hW : Below w.heap.size w W) => cfgMark_any a W (ha.call hW) (hw.call hW))
  have HMB := Lib.hid (fun W (hW : Below w.heap.size w W) => cfgMark_any b W (hb.call hW) (hw.call hW))
  have HSA := Lib.hid (fun W (hW : Below w.heap.size w W) => cfgSame_any a b W (ha.call hW) (hb.call hW))
  have HAL := Lib.hid (fun W => alive10_any W)
  have HB := Lib.hid hb2
  simp only [kCells] at *
  clear hb1 hb2 ha hb hw
  go_enter Tryz.func5, Tryz.ntmps5
  go_upto_region 1 with fail
  obtain ⟨wx, hwx⟩ : ∃ wx, (w.alloc (.cells #[.slice a.ua a.ru.length a.uc, .string a.rt.n.recv, .slice a.rt.ma a.rt.n.ms.length a.rt.mc, .slice a.rt.ba a.rt.n.bys.length a.rt.bc, .int .i64 a.rt.n.wait, .int .i64 a.rt.n.every, .int .i64 a.rt.n.rep, .slice a.rt.ua a.rt.n.mute.length a.rt.uc, .bool a.rt.n.on, .slice a.rt.ka a.rt.n.kids.length a.rt.kc, .slice a.ra a.re.length a.rc, .slice a.ia a.ih.length a.ic, .slice a.ha a.hr.length a.hc] 31)).alloc (.cells #[.slice b.ua b.ru.length b.uc, .string b.rt.n.recv, .slice b.rt.ma b.rt.n.ms.length b.rt.mc, .slice b.rt.ba b.rt.n.bys.length b.rt.bc, .int .i64 b.rt.n.wait, .int .i64 b.rt.n.every, .int .i64 b.rt.n.rep, .slice b.rt.ua b.rt.n.mute.length b.rt.uc, .bool b.rt.n.on, .slice b.rt.ka b.rt.n.kids.length b.rt.kc, .slice b.ra b.re.length b.rc, .slice b.ia b.ih.length b.ic, .slice b.ha b.hr.length b.hc] 31) = wx := ⟨_, rfl⟩
  simp only [hwx] at *
  clear hwx
  have HA := Lib.hid (fun W (hW : Below wx.heap.size wx W) => (hA.call hW).cells13)
  have HZ := Lib.hid (fun W (hW : Below wx.heap.size wx W) => (hZ.call hW).cells13)
  clear hA hZ
  obtain ⟨c0, c1, c2, c3, c4, c5, c6, c7, c8, c9, c10, c11, c12⟩ := HA.out wx (Below.refl _ _)
  go_upto_region 3 with (first
    | (go_at_call 7; (with_reducible refine (HBA.out _ HB.out).mono ?_); rintro e w2 ⟨b1, rfl, hb2, hbig⟩; clear hbig; have hx2 := hb2; have hbe2 := bthen HB.out hb2; clear c0 c1 c2 c3 c4 c5 c6 c7 c8 c9 c10 c11 c12; obtain ⟨d0, d1, d2, d3, d4, d5, d6, d7, d8, d9, d10, d11, d12⟩ := HZ.out _ hx2)
    | (go_at_call 7; (with_reducible refine (HBB.out _ hbe2).mono ?_); rintro e w3 ⟨b2, rfl, hb3, hbig⟩; clear hbig; have hx3 := bthen hx2 hb3; have hbe3 := bthen hbe2 hb3; clear d0 d1 d2 d3 d4 d5 d6 d7 d8 d9 d10 d11 d12; obtain ⟨c0, c1, c2, c3, c4, c5, c6, c7, c8, c9, c10, c11, c12⟩ := HA.out _ hx3)
    | (go_at_call 8; refine (HAL.out _).mono ?_; rintro e w4 ⟨rfl, hb4⟩))
  iterate 2
    · go_ret
      first
        | exact ⟨rfl, bthen hbe3 hb4⟩
        | exact ⟨rfl, bthen hbe2 hb4⟩
  clear HBA HBB
  go_upto_region 4 with (go_at_call 9; (with_reducible refine (HTA.out _ hbe3).mono ?_); rintro e w5 ⟨S, E, rfl, hb5, hqS⟩; have hx5 := bthen hx3 hb5; have hbe5 := bthen hbe3 hb5)
  have HQS := Lib.hid hqS
  clear hqS c0 c1 c2 c3 c4 c5 c6 c7 c8 c9 c10 c11 c12
  obtain ⟨c0, c1, c2, c3, c4, c5, c6, c7, c8, c9, c10, c11, c12⟩ := HZ.out _ hx5
  go_upto_region 5 with (go_at_call 9; (with_reducible refine (HTB.out _ hbe5).mono ?_); rintro e w6 ⟨T, F, rfl, hb6, hqT⟩; have hx6 := bthen hx5 hb6; have hbe6 := bthen hbe5 hb6)
  have HQT := Lib.hid hqT
  clear hqT c0 c1 c2 c3 c4 c5 c6 c7 c8 c9 c10 c11 c12
  by_cases hE : E = 0
  case neg =>
    have q1 : decide (E = 0) = false := decide_eq_false hE
    have q2 : (E != 0) = true := by rw [bne_iff_ne]; exact hE
    have q3 : (E == 0) = false := by rw [beq_eq_false_iff_ne]; exact hE
    go_wp2_with (go_at_call 8; refine (HAL.out _).mono ?_; rintro e w7 ⟨rfl, hb7⟩)
    go_ret
    exact ⟨rfl, bthen hbe6 hb7⟩
  subst hE
  by_cases hF : F = 0
  case neg =>
    have q1 : decide (F = 0) = false := decide_eq_false hF
    have q2 : (F != 0) = true := by rw [bne_iff_ne]; exact hF
    have q3 : (F == 0) = false := by rw [beq_eq_false_iff_ne]; exact hF
    go_wp2_with (go_at_call 8; refine (HAL.out _).mono ?_; rintro e w7 ⟨rfl, hb7⟩)
    go_ret
    exact ⟨rfl, bthen hbe6 hb7⟩
  subst hF
  have hS : cfgC a = true ∧ ∃ x, NormOf a x ∧ txK x = true ∧ S = txS x := by
    rcases HQS.out with ⟨_, h⟩ | ⟨h, _⟩ | ⟨h, _⟩
    · exact h
    · cases h
    · cases h
  have hT : cfgC b = true ∧ ∃ x, NormOf b x ∧ txK x = true ∧ T = txS x := by
    rcases HQT.out with ⟨_, h⟩ | ⟨h, _⟩ | ⟨h, _⟩
    · exact h
    · cases h
    · cases h
  have HS := Lib.hid hS
  have HT := Lib.hid hT
  clear hS hT HQS HQT
  obtain ⟨c0, c1, c2, c3, c4, c5, c6, c7, c8, c9, c10, c11, c12⟩ := HA.out _ hx6
  go_upto_region 8 with (go_at_call 10; (with_reducible refine (HMA.out _ hbe6).mono ?_); rintro e w7 ⟨M, G, rfl, hb7, hqM⟩; have hx7 := bthen hx6 hb7; have hbe7 := bthen hbe6 hb7)
  have hm := text_mark HS.out hqM
  clear hqM c0 c1 c2 c3 c4 c5 c6 c7 c8 c9 c10 c11 c12
  obtain ⟨rfl, rfl⟩ := hm
  obtain ⟨c0, c1, c2, c3, c4, c5, c6, c7, c8, c9, c10, c11, c12⟩ := HZ.out _ hx7
  go_upto_region 9 with (go_at_call 10; (with_reducible refine (HMB.out _ hbe7).mono ?_); rintro e w8 ⟨M2, G2, rfl, hb8, hqM⟩; have hx8 := bthen hx7 hb8; have hbe8 := bthen hbe7 hb8)
  have hm := text_mark HT.out hqM
  clear hqM c0 c1 c2 c3 c4 c5 c6 c7 c8 c9 c10 c11 c12
  obtain ⟨rfl, rfl⟩ := hm
  have HSM := Lib.hid (show ∀ W, Below w.heap.size w W → Calls Tryz.prog 24 #[.agg #[.slice a.ua a.ru.length a.uc, .string a.rt.n.recv, .slice a.rt.ma a.rt.n.ms.length a.rt.mc, .slice a.rt.ba a.rt.n.bys.length a.rt.bc, .int .i64 a.rt.n.wait, .int .i64 a.rt.n.every, .int .i64 a.rt.n.rep, .slice a.rt.ua a.rt.n.mute.length a.rt.uc, .bool a.rt.n.on, .slice a.rt.ka a.rt.n.kids.length a.rt.kc, .slice a.ra a.re.length a.rc, .slice a.ia a.ih.length a.ic, .slice a.ha a.hr.length a.hc], .agg #[.slice b.ua b.ru.length b.uc, .string b.rt.n.recv, .slice b.rt.ma b.rt.n.ms.length b.rt.mc, .slice b.rt.ba b.rt.n.bys.length b.rt.bc, .int .i64 b.rt.n.wait, .int .i64 b.rt.n.every, .int .i64 b.rt.n.rep, .slice b.rt.ua b.rt.n.mute.length b.rt.uc, .bool b.rt.n.on, .slice b.rt.ka b.rt.n.kids.length b.rt.kc, .slice b.ra b.re.length b.rc, .slice b.ia b.ih.length b.ic, .slice b.ha b.hr.length b.hc]] W (BoolB (decide (S = T)) W) from fun W hW => by
    refine (HSA.out W hW).mono ?_
    rintro e w' ⟨hb, X, rfl, hx⟩
    refine ⟨?_, hb⟩
    obtain ⟨hc, x, hx1, kx, sx⟩ := HS.out
    obtain ⟨hc2, y, hy1, ky, sy⟩ := HT.out
    rcases hx with ⟨h | h, _⟩ | ⟨_, _, ka, kb, h1, h2, rfl⟩
    · rw [hc] at h; cases h
    · rw [hc2] at h; cases h
    · have u1 := txS_uniq hc h1 hx1
      have u2 := txS_uniq hc2 h2 hy1
      have hh := txt_same hc hc2 h1 h2 (u1.2.trans kx) (u2.2.trans ky)
      have : sameK ka kb = decide (S = T) := by
        rw [Bool.eq_iff_iff, decide_eq_true_eq, ← hh, u1.1, u2.1, sx, sy]
      rw [this])
  clear HSA HMA HMB HTA HTB HS HT
  have qL : decide (((mkS S).size : Int) = 16) = true := decide_eq_true (by rw [mkS_len]; rfl)
  have qL2 : (((mkS S).size : Int) == 16) = true := by rw [beq_iff_eq, mkS_len]; rfl
  have qM : ((mkS S).toList == (mkS S).toList) = true := by simp
  by_cases hST : S = T
  · subst hST
    have qS : (S.toList == S.toList) = true := by simp
    rw [decide_eq_true rfl] at HSM
    generalize mkS S = M at *
    go_wp2_with (first
      | (go_at_call 8; refine (HAL.out _).mono ?_; rintro e w9 ⟨rfl, hb9⟩; have hx9 := bthen hx8 hb9; have hbe9 := bthen hbe8 hb9; obtain ⟨c0, c1, c2, c3, c4, c5, c6, c7, c8, c9, c10, c11, c12⟩ := HA.out _ hx9; obtain ⟨d0, d1, d2, d3, d4, d5, d6, d7, d8, d9, d10, d11, d12⟩ := HZ.out _ hx9)
      | (go_at_call 24; refine (HSM.out _ hbe9).mono ?_; rintro e w10 ⟨rfl, hb10⟩))
    go_ret
    exact ⟨rfl, bthen hbe9 hb10⟩
  · have qS : (S.toList == T.toList) = false := by rw [strEq]; exact decide_eq_false hST
    rw [decide_eq_false hST] at HSM
    generalize mkS S = M at *
    generalize mkS T = M2 at *
    go_wp2_with (first
      | (go_at_call 8; refine (HAL.out _).mono ?_; rintro e w9 ⟨rfl, hb9⟩; have hx9 := bthen hx8 hb9; have hbe9 := bthen hbe8 hb9; obtain ⟨c0, c1, c2, c3, c4, c5, c6, c7, c8, c9, c10, c11, c12⟩ := HA.out _ hx9; obtain ⟨d0, d1, d2, d3, d4, d5, d6, d7, d8, d9, d10, d11, d12⟩ := HZ.out _ hx9)
      | (go_at_call 24; refine (HSM.out _ hbe9).mono ?_; rintro e w10 ⟨rfl, hb10⟩))
    go_ret
    exact ⟨rfl, bthen hbe9 hb10⟩
end Go.Proofs.YtkgnapojkijbgaaGreatDoor
/- ConfigApart: two configurations that may be have one text just if they have one normal form. The condition: the arguments hold together at most 1048576 values and letters. The card: the tables that the row lists hold what the text of the program lays. -/
namespace Go.Proofs.YtkgnapojkijbgaaGreatDoor
open Go.ChangeShapes Go.WideShapes Go.ChangeAt Go.RowKit
open Go.ChangeMaps (open_string shut_string)
set_option maxRecDepth 100000 in
theorem configApart_contract (H : Type) (enc : TypeId × Value → H) (W : World) (base : Nat) (args : Array Value) (ds gs : List (DataW H)) (before : List MemPlace)
    (hval0 : ∀ (j : Nat) t v, Tryz.f5.params[j]? = some t → args[j]? = some v → Value.okWide Tryz.prog W .any base t v)
    (hW : DataW.Whole enc Tryz.prog Tryz.f5.params.toList Rows.configApartSpec.vars false W args.toList ds gs before) (hU0 : Rows.uptoBulkAll (ds ++ gs) ≤ 1048576) (hLaid : laidMetH Tryz.prog laidL W) :
    Calls Tryz.prog 5 args W fun e W' => ∃ v, e = .returned v ∧ Rows.configApartSpec.post enc Tryz.prog Tryz.f5 false true false false W args v W' := by
  have hval : ∀ (j : Nat) t v, Tryz.f5.params[j]? = some t → args[j]? = some v → Value.okWide Tryz.prog W .any base t v := hval0
  have hW' := hW
  obtain ⟨p, q, hA0, hV, rfl, hfz, hnd⟩ := hW
  have hA : DataW.TrodAll enc Tryz.prog W 0 (fun _ => true) true Tryz.f5.params.toList args.toList ds p := hA0
  rw [Tryz.params5] at hA hval
  obtain ⟨v0, vs0, d0, ds0, p0, q0, hargs, rfl, rfl, h0, r0⟩ := trodAll_cons hA
  obtain ⟨v1, vs1, d1, ds1, p1, q1, rfl, rfl, rfl, h1, r1⟩ := trodAll_cons r0
  obtain ⟨rfl, rfl, rfl⟩ := trodAll_nil r1
  obtain rfl : args = #[v0, v1] := by cases args; simp_all
  obtain ⟨rfl, rfl⟩ := trodVars_none hV
  have hU1 : Rows.uptoBulk d0 ≤ 1048576 := Nat.le_trans (bulk_mem (by simp)) hU0
  have hU2 : Rows.uptoBulk d1 ≤ 1048576 := Nat.le_trans (bulk_mem (by simp)) hU0
  have k0 := h0
  have lt0 : ∀ x ∈ p0, x.block < W.heap.size := by obtain ⟨m, hm⟩ := k0; exact DataW.trod_lt m _ _ _ hm
  obtain ⟨a0, rfl, w0⟩ := cfgArg_of (hval 0 31 v0 rfl rfl) h0 hU1
  have k1 := h1
  have lt1 : ∀ x ∈ p1, x.block < W.heap.size := by obtain ⟨m, hm⟩ := k1; exact DataW.trod_lt m _ _ _ hm
  obtain ⟨a1, rfl, w1⟩ := cfgArg_of (hval 1 31 v1 rfl rfl) h1 hU2
  clear hA0 hval0
  refine (configApart_walk (w := W) a0 w0 a1 w1 (cfgW_of hLaid)).mono fun e W' ⟨he, bel⟩ => ?_
  subst he
  exact ⟨_, rfl, _, _, _, [], _, [], hW', trodAll_mk1 (shut_bool Tryz.underlying4 _), (trodAll_cons_mk (Below.trod (by kernel_rfl) (by kernel_rfl) (of_decide_eq_true (by kernel_rfl)) k0 bel lt0) (trodAll_cons_mk (Below.trod (by kernel_rfl) (by kernel_rfl) (of_decide_eq_true (by kernel_rfl)) k1 bel lt1) trodAll_mk0)), rfl, bel.frame _, fun h => by cases h⟩
theorem configApart_reads (os : Os) {H : Type} (enc : TypeId × Value → H) : ∃ places, DataW.whole enc Tryz.prog ((World.doorLaid Tryz.prog 400 os).forCall (fun _ _ => 0) ⟨#[], #[.agg #[.slice none 0 0, .string ByteArray.empty, .slice none 0 0, .slice none 0 0, .int .i64 0, .int .i64 0, .int .i64 0, .slice none 0 0, .bool false, .slice none 0 0, .slice none 0 0, .slice none 0 0, .slice none 0 0], .agg #[.slice none 0 0, .string ByteArray.empty, .slice none 0 0, .slice none 0 0, .int .i64 0, .int .i64 0, .int .i64 0, .slice none 0 0, .bool false, .slice none 0 0, .slice none 0 0, .slice none 0 0, .slice none 0 0]], []⟩).memory Tryz.f5.params.toList Rows.configApartSpec.vars false (#[.agg #[.slice none 0 0, .string ByteArray.empty, .slice none 0 0, .slice none 0 0, .int .i64 0, .int .i64 0, .int .i64 0, .slice none 0 0, .bool false, .slice none 0 0, .slice none 0 0, .slice none 0 0, .slice none 0 0], .agg #[.slice none 0 0, .string ByteArray.empty, .slice none 0 0, .slice none 0 0, .int .i64 0, .int .i64 0, .int .i64 0, .slice none 0 0, .bool false, .slice none 0 0, .slice none 0 0, .slice none 0 0, .slice none 0 0]] : Array Value).toList 8 = some ([.agg [.nil, .agg [.lit (.string []), .nil, .nil, .lit (.int .i64 0), .lit (.int .i64 0), .lit (.int .i64 0), .nil, .lit (.bool false), .nil], .nil, .nil, .nil], .agg [.nil, .agg [.lit (.string []), .nil, .nil, .lit (.int .i64 0), .lit (.int .i64 0), .lit (.int .i64 0), .nil, .lit (.bool false), .nil], .nil, .nil, .nil]], [], places) :=
  ⟨[], by kernel_rfl⟩
set_option maxRecDepth 100000 in
theorem configApart_liftedUpto (os : Os) (started : os.Started) (H : Type) (enc : TypeId × Value → H) (F : Stop.Interp) :
    ReturnsInHanded {} Tryz.checked os 5 .any ((Rows.OpenSpec.upto Rows.configApartSpec).preRow enc Tryz.prog Tryz.f5 Rows.configApartUptoRow.domain false Rows.configApartUptoRow.laid) (((Rows.OpenSpec.upto Rows.configApartSpec).at F).post enc Tryz.prog Tryz.f5 false true false false) := by
  obtain ⟨places, hx⟩ := configApart_reads os enc
  refine returnsInHanded_of_row (C := Tryz.checked) (s := Rows.OpenSpec.upto Rows.configApartSpec) ownK started (by kernel_rfl) Tryz.func5
    (witness_row_atRef (enc := enc) (C := Tryz.checked) false (World.doorLaid Tryz.prog 400 os) #[.agg #[.slice none 0 0, .string ByteArray.empty, .slice none 0 0, .slice none 0 0, .int .i64 0, .int .i64 0, .int .i64 0, .slice none 0 0, .bool false, .slice none 0 0, .slice none 0 0, .slice none 0 0, .slice none 0 0], .agg #[.slice none 0 0, .string ByteArray.empty, .slice none 0 0, .slice none 0 0, .int .i64 0, .int .i64 0, .int .i64 0, .slice none 0 0, .bool false, .slice none 0 0, .slice none 0 0, .slice none 0 0, .slice none 0 0]] rfl (by kernel_rfl) (by kernel_rfl) (by kernel_rfl)
      (OpenSpec.preRow_of_cond 8 hx (by kernel_rfl) (fun k hk => by cases hk; kernel_rfl) (by kernel_rfl) (door_met os _))) ?_
  intro W base args ds gs before hval hW _ hcond _ hL _ _
  exact configApart_contract H enc W base args ds gs before hval hW (of_decide_eq_true (hcond _ rfl)) hL
set_option maxHeartbeats 6400000 in
theorem configApart_saidUpto : Rows.ConfigApartUptoSaid :=
  OpenClaim.holds_of_cond 5 Tryz.f5 rfl rfl rfl rfl rfl rfl rfl ⟨rfl, rfl, rfl, rfl, rfl⟩ rfl rfl rfl rfl rfl (by as_aux_lemma => kernel_rfl) Tryz.func5 (by as_aux_lemma => kernel_rfl)
    (of_decide_eq_true (by as_aux_lemma => kernel_rfl)) (by as_aux_lemma => (unfold Func.isWrapper; first | (rw [if_pos (by decide +kernel)]; kernel_rfl) | (rw [if_neg (by decide +kernel)]; exact ⟨rfl, rfl⟩)))
    (fun os started H enc _ F => by rw [OpenClaim.pre_eq_preRow]; exact configApart_liftedUpto os started H enc F)
theorem configApart_plain (f : FuncId) (fn : Func) (hf : Tryz.pinned.checked.prog.funcNamed "transhipment/transhipmentlaw10.ConfigApart" = some f) (hfn : Tryz.pinned.checked.prog.funcs[f]? = some fn) :
    false = Tryz.pinned.checked.prog.looks [] ∧ ∀ (j : Nat) t, fn.params[j]? = some t → Tryz.pinned.checked.prog.wantsStandIn t = false := by
  obtain rfl : f = 5 := Option.some.inj ((show Tryz.prog.funcNamed "transhipment/transhipmentlaw10.ConfigApart" = some 5 by kernel_rfl).symm.trans hf) |>.symm
  obtain rfl : fn = Tryz.f5 := (Option.some.inj (Tryz.func5.symm.trans hfn)).symm
  refine ⟨by kernel_rfl, fun j t ht => ?_⟩
  rw [Tryz.params5] at ht
  have hm : t ∈ [31, 31] := by simpa using Array.mem_of_getElem? ht
  have hall : ([31, 31].all fun u => !Tryz.prog.wantsStandIn u) = true := by kernel_rfl
  exact (show Tryz.prog.wantsStandIn t = false by simpa using List.all_eq_true.1 hall t hm)
/-- THE CARD -/
theorem configApart_cardUpto : Rows.ConfigApartUptoCardSaid :=
  Claim7.holds_tied_plain_at .later [] _ _ _ _ configApart_saidUpto (fun _ h => by cases h) (by kernel_rfl) (fun _ h => by cases h) configApartUpto_row_tie rfl ⟨rfl, rfl⟩ (by kernel_rfl) rfl configApart_plain (by kernel_rfl)
#print axioms configApart_cardUpto
end Go.Proofs.YtkgnapojkijbgaaGreatDoor
