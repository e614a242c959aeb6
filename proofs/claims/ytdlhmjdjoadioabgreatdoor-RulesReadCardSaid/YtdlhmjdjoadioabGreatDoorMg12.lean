/- The contract of the document's own Same of layer 1. -/
import Derived.Test.YtdlhmjdjoadioabGreatDoorMg3
import Derived.Test.YtdlhmjdjoadioabGreatDoorMg2
import Derived.BigQuiet
import Derived.Deep.QuietTactic
import Derived.ProofKit
import Derived.Test.YtdlhmjdjoadioabGreatDoorMg9
namespace Go.Proofs.YtdlhmjdjoadioabGreatDoor
open Go.RowKit
open Go.WideShapes (bytes_inj)

def SamePost (B : Bool) (w : World) (e : Ending) (w' : World) : Prop := e = .returned (.bool B) ∧ Below w.heap.size w w'

set_option maxHeartbeats 800000 in
set_option maxRecDepth 100000 in
theorem same_some (b off c b' off' c' : Nat) (ss ts : List ByteArray) (w : World) (hlc : ss.length ≤ c) (hcm : c ≤ maxLen) (hlc' : ts.length ≤ c') (_hcm' : c' ≤ maxLen) (hb : b < w.heap.size) (hb' : b' < w.heap.size)
    (hcell : ∀ i (h : i < ss.length), w.cell? ⟨b, off + i, none⟩ = some (.string ss[i])) (hcell' : ∀ i (h : i < ts.length), w.cell? ⟨b', off' + i, none⟩ = some (.string ts[i])) (hl : ss.length = ts.length) :
    Calls Tryz.prog 13 #[.slice (some ⟨b, off, none⟩) ss.length c, .slice (some ⟨b', off', none⟩) ts.length c'] w (SamePost (decide (ss = ts)) w) := by
  unfold maxLen at hcm
  have HC := Lib.hid hcell
  have HC' := Lib.hid hcell'
  have hlen : ((ss.length : Int) != (ts.length : Int)) = false := by rw [hl]; simp
  have hlb : ts.length ≤ ss.length := by omega
  have hlb' : ss.length ≤ ts.length := by omega
  have HL := Lib.hid hl
  clear hcell hcell' hl
  go_enter Tryz.func13, Tryz.ntmps13
  go_wp2
  go_loopw [13] (fun i wr => ∃ k : Nat, k ≤ ss.length ∧ i = .int .i64 k ∧ ss.take k = ts.take k ∧ Below w.heap.size w wr) (fun i _ => ss.length - (intOf i).toNat)
  case atStart => exact ⟨0, Nat.zero_le _, rfl, rfl, Below.refl _ _⟩
  case round =>
    obtain ⟨k, hk, rfl, he, hbl⟩ := hrel
    have HE := Lib.hid he
    clear he
    by_cases hkl : k < ss.length
    · have hc := (hbl.cell (p := ⟨b, off + k, none⟩) hb).trans (HC.out k hkl)
      have hc' := (hbl.cell (p := ⟨b', off' + k, none⟩) hb').trans (HC'.out k (by omega))
      by_cases hq : ss[k] = ts[k]'(by omega)
      · have hq2 : (ss[k].toList == (ts[k]'(by omega)).toList) = true := by rw [hq]; simp
        have htk : ss.take (k + 1) = ts.take (k + 1) := by
          rw [List.take_succ_eq_append_getElem hkl, List.take_succ_eq_append_getElem (by omega), HE.out, hq]
        have HT := Lib.hid htk
        clear htk hq
        go_wp2_with fail
        go_quiet (fail)
        go_wp2
        go_roundw
        case rel => exact ⟨k + 1, by omega, by go_num, HT.out, below_drewN hbl _⟩
        case measure => simp [intOf]; omega
      · have hq2 : (ss[k].toList == (ts[k]'(by omega)).toList) = false := by
          rw [beq_eq_false_iff_ne, ne_eq, ByteArray.toList_eq, ByteArray.toList_eq]
          intro e
          exact hq (bytes_inj e)
        have hf : decide (ss = ts) = false := by
          rw [decide_eq_false_iff_not]
          intro e
          subst e
          exact hq rfl
        have HF := Lib.hid hf
        clear hq hf
        go_wp2_with fail
        go_quiet (fail)
        go_wp2
        go_ret
        rw [HF.out]
        exact ⟨rfl, below_drewN hbl _⟩
    · have ht : decide (ss = ts) = true := by
        have := HE.out
        rw [List.take_of_length_le (by omega), List.take_of_length_le (by omega)] at this
        rw [decide_eq_true_iff]; exact this
      go_wp2
      go_ret
      rw [ht]
      exact ⟨rfl, hbl⟩

theorem same_any (a a' : Option Addr) (c c' : Nat) (ss ts : List ByteArray) (w : World) (h : HasStrs w a c ss) (h' : HasStrs w a' c' ts) :
    Calls Tryz.prog 13 #[.slice a ss.length c, .slice a' ts.length c'] w (SamePost (decide (ss = ts)) w) := by
  obtain ⟨h1, h2, h3, h4⟩ := h
  obtain ⟨g1, g2, g3, g4⟩ := h'
  unfold maxLen at h2 g2
  by_cases hl : ss.length = ts.length
  · rcases h4 with rfl | ⟨b, off, rfl, hb, hc⟩
    · obtain rfl : ts = [] := List.eq_nil_of_length_eq_zero hl.symm
      go_enter Tryz.func13, Tryz.ntmps13
      go_wp2
      refine wp_loop_rounds 1 ?_
      rw [rounds_succ]
      go_wp2
      go_ret
      exact ⟨rfl, Below.refl _ _⟩
    · rcases g4 with rfl | ⟨b', off', rfl, hb', hc'⟩
      · obtain rfl : ss = [] := List.eq_nil_of_length_eq_zero hl
        go_enter Tryz.func13, Tryz.ntmps13
        go_wp2
        refine wp_loop_rounds 1 ?_
        rw [rounds_succ]
        go_wp2
        go_ret
        exact ⟨rfl, Below.refl _ _⟩
      · exact same_some b off c b' off' c' ss ts w h1 (by unfold maxLen; omega) g1 (by unfold maxLen; omega) hb hb' hc hc' hl
  · have hlen : ((ss.length : Int) != (ts.length : Int)) = true := by rw [bne_iff_ne]; omega
    have hf : decide (ss = ts) = false := by
      rw [decide_eq_false_iff_not]
      intro e
      exact hl (by rw [e])
    rw [hf]
    clear hl hf h3 h4 g3 g4
    go_enter Tryz.func13, Tryz.ntmps13
    go_wp2
    go_ret
    exact ⟨rfl, Below.refl _ _⟩
end Go.Proofs.YtdlhmjdjoadioabGreatDoor
/- The contract of the library's Equal of rows of texts. -/
namespace Go.Proofs.YtdlhmjdjoadioabGreatDoor
open Go.RowKit
open Go.WideShapes (bytes_inj)

set_option maxHeartbeats 800000 in
set_option maxRecDepth 100000 in
theorem equal_some (b off c b' off' c' : Nat) (ss ts : List ByteArray) (w : World) (hlc : ss.length ≤ c) (hcm : c ≤ maxLen) (hlc' : ts.length ≤ c') (_hcm' : c' ≤ maxLen) (hb : b < w.heap.size) (hb' : b' < w.heap.size)
    (hcell : ∀ i (h : i < ss.length), w.cell? ⟨b, off + i, none⟩ = some (.string ss[i])) (hcell' : ∀ i (h : i < ts.length), w.cell? ⟨b', off' + i, none⟩ = some (.string ts[i])) (hl : ss.length = ts.length) :
    Calls Tryz.prog 24 #[.slice (some ⟨b, off, none⟩) ss.length c, .slice (some ⟨b', off', none⟩) ts.length c'] w (SamePost (decide (ss = ts)) w) := by
  unfold maxLen at hcm
  have HC := Lib.hid hcell
  have HC' := Lib.hid hcell'
  have hlen : ((ss.length : Int) != (ts.length : Int)) = false := by rw [hl]; simp
  have hlb : ts.length ≤ ss.length := by omega
  have hlb' : ss.length ≤ ts.length := by omega
  have HL := Lib.hid hl
  clear hcell hcell' hl
  go_enter Tryz.func24, Tryz.ntmps24
  go_wp2
  go_loopw [13] (fun i wr => ∃ k : Nat, k ≤ ss.length ∧ i = .int .i64 k ∧ ss.take k = ts.take k ∧ Below w.heap.size w wr) (fun i _ => ss.length - (intOf i).toNat)
  case atStart => exact ⟨0, Nat.zero_le _, rfl, rfl, Below.refl _ _⟩
  case round =>
    obtain ⟨k, hk, rfl, he, hbl⟩ := hrel
    have HE := Lib.hid he
    clear he
    by_cases hkl : k < ss.length
    · have hc := (hbl.cell (p := ⟨b, off + k, none⟩) hb).trans (HC.out k hkl)
      have hc' := (hbl.cell (p := ⟨b', off' + k, none⟩) hb').trans (HC'.out k (by omega))
      by_cases hq : ss[k] = ts[k]'(by omega)
      · have hq2 : (ss[k].toList == (ts[k]'(by omega)).toList) = true := by rw [hq]; simp
        have htk : ss.take (k + 1) = ts.take (k + 1) := by
          rw [List.take_succ_eq_append_getElem hkl, List.take_succ_eq_append_getElem (by omega), HE.out, hq]
        have HT := Lib.hid htk
        clear htk hq
        go_wp2_with fail
        go_quiet (fail)
        go_wp2
        go_roundw
        case rel => exact ⟨k + 1, by omega, by go_num, HT.out, below_drewN hbl _⟩
        case measure => simp [intOf]; omega
      · have hq2 : (ss[k].toList == (ts[k]'(by omega)).toList) = false := by
          rw [beq_eq_false_iff_ne, ne_eq, ByteArray.toList_eq, ByteArray.toList_eq]
          intro e
          exact hq (bytes_inj e)
        have hf : decide (ss = ts) = false := by
          rw [decide_eq_false_iff_not]
          intro e
          subst e
          exact hq rfl
        have HF := Lib.hid hf
        clear hq hf
        go_wp2_with fail
        go_quiet (fail)
        go_wp2
        go_ret
        rw [HF.out]
        exact ⟨rfl, below_drewN hbl _⟩
    · have ht : decide (ss = ts) = true := by
        have := HE.out
        rw [List.take_of_length_le (by omega), List.take_of_length_le (by omega)] at this
        rw [decide_eq_true_iff]; exact this
      go_wp2
      go_ret
      rw [ht]
      exact ⟨rfl, hbl⟩

theorem equal_any (a a' : Option Addr) (c c' : Nat) (ss ts : List ByteArray) (w : World) (h : HasStrs w a c ss) (h' : HasStrs w a' c' ts) :
    Calls Tryz.prog 24 #[.slice a ss.length c, .slice a' ts.length c'] w (SamePost (decide (ss = ts)) w) := by
  obtain ⟨h1, h2, h3, h4⟩ := h
  obtain ⟨g1, g2, g3, g4⟩ := h'
  unfold maxLen at h2 g2
  by_cases hl : ss.length = ts.length
  · rcases h4 with rfl | ⟨b, off, rfl, hb, hc⟩
    · obtain rfl : ts = [] := List.eq_nil_of_length_eq_zero hl.symm
      go_enter Tryz.func24, Tryz.ntmps24
      go_wp2
      refine wp_loop_rounds 1 ?_
      rw [rounds_succ]
      go_wp2
      go_ret
      exact ⟨rfl, Below.refl _ _⟩
    · rcases g4 with rfl | ⟨b', off', rfl, hb', hc'⟩
      · obtain rfl : ss = [] := List.eq_nil_of_length_eq_zero hl
        go_enter Tryz.func24, Tryz.ntmps24
        go_wp2
        refine wp_loop_rounds 1 ?_
        rw [rounds_succ]
        go_wp2
        go_ret
        exact ⟨rfl, Below.refl _ _⟩
      · exact equal_some b off c b' off' c' ss ts w h1 (by unfold maxLen; omega) g1 (by unfold maxLen; omega) hb hb' hc hc' hl
  · have hlen : ((ss.length : Int) != (ts.length : Int)) = true := by rw [bne_iff_ne]; omega
    have hf : decide (ss = ts) = false := by
      rw [decide_eq_false_iff_not]
      intro e
      exact hl (by rw [e])
    rw [hf]
    clear hl hf h3 h4 g3 g4
    go_enter Tryz.func24, Tryz.ntmps24
    go_wp2
    go_ret
    exact ⟨rfl, Below.refl _ _⟩
end Go.Proofs.YtdlhmjdjoadioabGreatDoor
/- The labels of an alert, against what the document lays over one another: mathematics alone. -/
namespace Go.Proofs.YtdlhmjdjoadioabGreatDoor

theorem lays_over {ls ms out : List Lab} (h : rightC ls = true) (h' : rightC ms = true) (hp : out.Perm (ms ++ restL ls ms)) (hs : WS out) :
    (withP ls ms = if out.length ≤ 8 then (out, 0) else ([], 2)) ∧ (out.length ≤ 8 → rightC out = true) := by
  obtain ⟨hd, hl⟩ := over_dis h h'
  have hpp : out.Perm (restL ls ms ++ ms) := hp.trans List.perm_append_comm
  refine ⟨?_, fun h8 => ?_⟩
  · rw [withP, if_pos h, if_pos h', newP_dis hd hl, hpp.length_eq]
    split
    · rename_i h8
      obtain ⟨h1, h2⟩ := sort_right hpp hs hl h8
      rw [h2 (by rw [h1]; exact dis_right hd hl h8)]
    · rfl
  · rw [hpp.length_eq] at h8
    obtain ⟨h1, h2⟩ := sort_right hpp hs hl h8
    rw [h1]; exact dis_right hd hl h8
theorem bw_val {s : Bs} (h : bwC s = true) : valC s = true := by
  simp only [bwC, valC, Bool.and_eq_true, decide_eq_true_eq, List.all_eq_true] at h ⊢
  refine ⟨h.1, fun c hc => ?_⟩
  have := h.2 c hc
  simp only [bwB, visC, decide_eq_true_eq] at this ⊢
  omega
theorem name_right {n : ByteArray} (h : bwC n.data.toList = true) : rightC [(aName, n)] = true := by
  refine (rightC_iff _).2 ⟨by simp, fun l hl => ?_, List.pairwise_singleton _ _⟩
  obtain rfl := List.mem_singleton.1 hl
  simp only [labC, Bool.and_eq_true]
  exact ⟨by decide, bw_val h⟩
theorem rul_labs {r : Rul} (h : rulC r = true) : rightC r.labels = true ∧ hasN r.labels aName = false ∧ r.labels.length ≤ 4 ∧ bwC r.name.data.toList = true := by
  obtain ⟨h1, _, _, _, _, _, _, h8⟩ := (rulC_iff r).1 h
  obtain ⟨g1, g2, g3⟩ := (rlabsC_iff _).1 h8
  exact ⟨g2, g3, g1, h1⟩
theorem alabs_want {r : Rul} {ls first want : List Lab} (hr : rulC r = true) (hl : rightC ls = true) (hp : first.Perm (r.labels ++ restL ls r.labels)) (hs : WS first)
    (hp2 : want.Perm ([(aName, r.name)] ++ restL first [(aName, r.name)])) (hs2 : WS want) :
    alabsP r ls = if first.length ≤ 8 then if want.length ≤ 8 then (want, 0) else ([], 2) else ([], 2) := by
  obtain ⟨g1, g2, g3, g4⟩ := rul_labs hr
  obtain ⟨h1, h2⟩ := lays_over hl g1 hp hs
  unfold alabsP
  rw [if_pos hr, h1]
  by_cases h8 : first.length ≤ 8
  · rw [if_pos h8, if_pos h8]
    simp only
    rw [if_pos trivial]
    exact (lays_over (h2 h8) (name_right g4) hp2 hs2).1
  · rw [if_neg h8, if_neg h8]
    simp
theorem alabs_bad {r : Rul} {ls : List Lab} (h : rulC r = false ∨ rightC ls = false) : alabsP r ls = ([], 1) := by
  unfold alabsP
  cases hr : rulC r with
  | false => rfl
  | true =>
    rw [hr] at h
    have hl := h.resolve_left (by simp)
    have : withP ls r.labels = ([], 1) := by rw [withP, if_neg (by rw [hl]; simp)]
    rw [if_pos rfl, this]; rfl
end Go.Proofs.YtdlhmjdjoadioabGreatDoor
