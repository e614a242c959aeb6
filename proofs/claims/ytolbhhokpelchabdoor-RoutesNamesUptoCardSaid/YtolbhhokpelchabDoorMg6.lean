/- The contract of 'alive' of layer 9, and of the document's own Like of two routes that hold none. -/
import Derived.Test.YtolbhhokpelchabDoorFndB
import Derived.Test.YtolbhhokpelchabDoorInfo
import Derived.Test.YtolbhhokpelchabDoorLib2
import Derived.BigQuiet
import Derived.Deep.QuietTactic
import Derived.ProofKit
namespace Go.Proofs.YtolbhhokpelchabDoor
open Go.RowKit

def opsR : RtAt := ⟨.mk ⟨#[111, 112, 115]⟩ [] [] 0 1 1 [] false [], none, 0, none, 0, none, 0, none, 0⟩
theorem ops_ok (w : World) : opsR.ok w :=
  .flat _ ⟨⟨HasMats.nil w none 0 (by unfold maxLen; omega), HasStrs.nil w none 0 (Nat.zero_le _), HasStrs.nil w none 0 (Nat.zero_le _), by decide, ⟨by decide, by decide, by decide⟩, by decide, by decide, by decide⟩, Nat.le_refl _, by show 0 ≤ maxLen; omega⟩ rfl
theorem ops_find : opsR.n.find [] [] = [([], opsR.n)] := by
  simp [opsR, Rt.find, findRs]
theorem proj_one {ts : List TgtAt} {p : Bs} {n : Rt} (h : proj ts = [(p, n)]) : ∃ t, ts = [t] ∧ t.1.data.toList = p ∧ t.2.n = n := by
  match ts, h with
  | [t], h => simp [proj] at h; exact ⟨t, rfl, by simpa using h.1, h.2⟩
set_option maxHeartbeats 3200000 in
set_option maxRecDepth 100000 in
theorem alive_any (w : World) : Calls Tryd.prog 7 #[] w (BoolB true w) := by
  have hf := find_any opsR none 0 [] w (ops_ok w) (HasLabs.nil w none 0 (by unfold maxLen; omega)) (by decide)
  have hf2 : Calls Tryd.prog 8 #[.agg #[.string ⟨#[111, 112, 115]⟩, .slice none 0 0, .slice none 0 0, .int .i64 0, .int .i64 1, .int .i64 1, .slice none 0 0, .bool false, .slice none 0 0], .slice none 0 0] w
      (fun e w' => ∃ b off c', e = .returned (.tuple #[.slice (some ⟨b, off, none⟩) 1 c', .int .i64 0]) ∧ w'.cell? ⟨b, off, none⟩ = some (.string ⟨#[]⟩) ∧ w'.cell? ⟨b, off + 1, none⟩ = some (.string ⟨#[111, 112, 115]⟩) ∧ Below w.heap.size w w') := by
    refine hf.mono ?_
    rintro e w' (⟨h1, _⟩ | ⟨_, a', c', ts, rfl, hp, ht, hb⟩)
    · exact absurd h1 (by decide)
    · rw [ops_find] at hp
      obtain ⟨t, rfl, h1, h2⟩ := proj_one hp
      obtain ⟨_, _, _, h3 | ⟨b, off, rfl, _, hc⟩⟩ := ht
      · cases h3
      · have hl := hc 0 (by simp)
        have l1 := hl.1
        have l2 := hl.2.1
        simp only [List.getElem_cons_zero, Nat.zero_mul, Nat.add_zero] at l1 l2
        have e1 : t.1 = ⟨#[]⟩ := bytes_ext h1
        rw [e1] at l1
        rw [h2] at l2
        exact ⟨b, off, c', rfl, l1, l2, hb⟩
  have HF := Lib.hid hf2
  clear hf hf2
  go_enter Tryd.func7, Tryd.ntmps7
  go_wp2_with (go_at_call 8; refine HF.out.mono ?_; rintro e w2 ⟨b, off, c', rfl, l1, l2, hb2⟩)
  go_ret
  exact ⟨rfl, hb2⟩
end Go.Proofs.YtolbhhokpelchabDoor
/- What is told of two rows of texts that are compared. -/
namespace Go.Proofs.YtolbhhokpelchabDoor
open Go.RowKit

def SamePost (B : Bool) (w : World) (e : Ending) (w' : World) : Prop := e = .returned (.bool B) ∧ Below w.heap.size w w'
end Go.Proofs.YtolbhhokpelchabDoor
/- The contract of the document's own Same of layer 1. -/
namespace Go.Proofs.YtolbhhokpelchabDoor
open Go.RowKit
open Go.WideShapes (bytes_inj)

set_option maxHeartbeats 800000 in
set_option maxRecDepth 100000 in
theorem same_some (b off c b' off' c' : Nat) (ss ts : List ByteArray) (w : World) (hlc : ss.length ≤ c) (hcm : c ≤ maxLen) (hlc' : ts.length ≤ c') (_hcm' : c' ≤ maxLen) (hb : b < w.heap.size) (hb' : b' < w.heap.size)
    (hcell : ∀ i (h : i < ss.length), w.cell? ⟨b, off + i, none⟩ = some (.string ss[i])) (hcell' : ∀ i (h : i < ts.length), w.cell? ⟨b', off' + i, none⟩ = some (.string ts[i])) (hl : ss.length = ts.length) :
    Calls Tryd.prog 18 #[.slice (some ⟨b, off, none⟩) ss.length c, .slice (some ⟨b', off', none⟩) ts.length c'] w (SamePost (decide (ss = ts)) w) := by
  unfold maxLen at hcm
  have HC := Lib.hid hcell
  have HC' := Lib.hid hcell'
  have hlen : ((ss.length : Int) != (ts.length : Int)) = false := by rw [hl]; simp
  have hlb : ts.length ≤ ss.length := by omega
  have hlb' : ss.length ≤ ts.length := by omega
  have HL := Lib.hid hl
  clear hcell hcell' hl
  go_enter Tryd.func18, Tryd.ntmps18
  go_wp2
  go_loopw [13] (fun i wr => ∃ k : Nat, k ≤ ss.length ∧ i = .int .i64 k ∧ ss.take k = ts.take k ∧ Below w.heap.size w wr) (fun i _ => ss.length - (intOf i).toNat)
  case atStart => exact ⟨0, Nat.zero_le _, rfl, rfl, Below.refl _ _⟩
  case round =>
    obtain ⟨k, hk, rfl, he, hbl⟩ := hrel
    have HE := Lib.hid he
    clear he
    by_cases hkl : k < ss.length
    · have hc := (hbl.cell (p := ⟨b, off + k, none⟩) hb).trans (HC.out k hkl)
      have hc' := (hbl.cell (p := ⟨b', off' + k, none⟩) hb').trans (HC'.out k (by omega))
      by_cases hq : ss[k] = ts[k]'(by omega)
      · have hq2 : (ss[k].toList == (ts[k]'(by omega)).toList) = true := by rw [hq]; simp
        have htk : ss.take (k + 1) = ts.take (k + 1) := by
          rw [List.take_succ_eq_append_getElem hkl, List.take_succ_eq_append_getElem (by omega), HE.out, hq]
        have HT := Lib.hid htk
        clear htk hq
        go_wp2_with fail
        go_quiet (fail)
        go_wp2
        go_roundw
        case rel => exact ⟨k + 1, by omega, by go_num, HT.out, below_drewN hbl _⟩
        case measure => simp [intOf]; omega
      · have hq2 : (ss[k].toList == (ts[k]'(by omega)).toList) = false := by
          rw [beq_eq_false_iff_ne, ne_eq, ByteArray.toList_eq, ByteArray.toList_eq]
          intro e
          exact hq (bytes_inj e)
        have hf : decide (ss = ts) = false := by
          rw [decide_eq_false_iff_not]
          intro e
          subst e
          exact hq rfl
        have HF := Lib.hid hf
        clear hq hf
        go_wp2_with fail
        go_quiet (fail)
        go_wp2
        go_ret
        rw [HF.out]
        exact ⟨rfl, below_drewN hbl _⟩
    · have ht : decide (ss = ts) = true := by
        have := HE.out
        rw [List.take_of_length_le (by omega), List.take_of_length_le (by omega)] at this
        rw [decide_eq_true_iff]; exact this
      go_wp2
      go_ret
      rw [ht]
      exact ⟨rfl, hbl⟩

theorem same_any (a a' : Option Addr) (c c' : Nat) (ss ts : List ByteArray) (w : World) (h : HasStrs w a c ss) (h' : HasStrs w a' c' ts) :
    Calls Tryd.prog 18 #[.slice a ss.length c, .slice a' ts.length c'] w (SamePost (decide (ss = ts)) w) := by
  obtain ⟨h1, h2, h3, h4⟩ := h
  obtain ⟨g1, g2, g3, g4⟩ := h'
  unfold maxLen at h2 g2
  by_cases hl : ss.length = ts.length
  · rcases h4 with rfl | ⟨b, off, rfl, hb, hc⟩
    · obtain rfl : ts = [] := List.eq_nil_of_length_eq_zero hl.symm
      go_enter Tryd.func18, Tryd.ntmps18
      go_wp2
      refine wp_loop_rounds 1 ?_
      rw [rounds_succ]
      go_wp2
      go_ret
      exact ⟨rfl, Below.refl _ _⟩
    · rcases g4 with rfl | ⟨b', off', rfl, hb', hc'⟩
      · obtain rfl : ss = [] := List.eq_nil_of_length_eq_zero hl
        go_enter Tryd.func18, Tryd.ntmps18
        go_wp2
        refine wp_loop_rounds 1 ?_
        rw [rounds_succ]
        go_wp2
        go_ret
        exact ⟨rfl, Below.refl _ _⟩
      · exact same_some b off c b' off' c' ss ts w h1 (by unfold maxLen; omega) g1 (by unfold maxLen; omega) hb hb' hc hc' hl
  · have hlen : ((ss.length : Int) != (ts.length : Int)) = true := by rw [bne_iff_ne]; omega
    have hf : decide (ss = ts) = false := by
      rw [decide_eq_false_iff_not]
      intro e
      exact hl (by rw [e])
    rw [hf]
    clear hl hf h3 h4 g3 g4
    go_enter Tryd.func18, Tryd.ntmps18
    go_wp2
    go_ret
    exact ⟨rfl, Below.refl _ _⟩
end Go.Proofs.YtolbhhokpelchabDoor
