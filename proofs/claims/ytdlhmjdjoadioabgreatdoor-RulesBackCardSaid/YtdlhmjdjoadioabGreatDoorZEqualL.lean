/- The contract of the library's Equal of rows of labels. -/
import Derived.Test.YtdlhmjdjoadioabGreatDoorMg5
namespace Go.Proofs.YtdlhmjdjoadioabGreatDoor
open Go.RowKit
open Go.WideShapes (bytes_inj)

set_option maxHeartbeats 1600000 in
set_option maxRecDepth 100000 in
theorem equalL_some (b off c b' off' c' : Nat) (ls ms : List Lab) (w : World) (hlc : ls.length ≤ c) (hcm : c ≤ maxLen) (hlc' : ms.length ≤ c') (_hcm' : c' ≤ maxLen) (_hb : b < w.heap.size) (_hb' : b' < w.heap.size)
    (hcell : ∀ i (h : i < ls.length), w.cell? ⟨b, off + i * 2, none⟩ = some (.string ls[i].1) ∧ w.cell? ⟨b, off + i * 2 + 1, none⟩ = some (.string ls[i].2))
    (hcell' : ∀ i (h : i < ms.length), w.cell? ⟨b', off' + i * 2, none⟩ = some (.string ms[i].1) ∧ w.cell? ⟨b', off' + i * 2 + 1, none⟩ = some (.string ms[i].2)) (hl : ls.length = ms.length) :
    Calls Tryz.prog 35 #[.slice (some ⟨b, off, none⟩) ls.length c, .slice (some ⟨b', off', none⟩) ms.length c'] w (BoolB (decide (ls = ms)) w) := by
  unfold maxLen at hcm _hcm'
  have HC := Lib.hid hcell
  have HC' := Lib.hid hcell'
  have hlen : ((ls.length : Int) != (ms.length : Int)) = false := by rw [hl]; simp
  have hlb : ms.length ≤ ls.length := by omega
  have hlb' : ls.length ≤ ms.length := by omega
  have HL := Lib.hid hl
  clear hcell hcell' hl
  go_enter Tryz.func35, Tryz.ntmps35
  go_wp2
  go_loopw [13] (fun i wr => ∃ k : Nat, k ≤ ls.length ∧ i = .int .i64 k ∧ ls.take k = ms.take k ∧ Below w.heap.size w wr) (fun i _ => ls.length - (intOf i).toNat)
  case atStart => exact ⟨0, Nat.zero_le _, rfl, rfl, Below.refl _ _⟩
  case round =>
    obtain ⟨k, hk, rfl, he, hbl⟩ := hrel
    have HE := Lib.hid he
    clear he
    by_cases hkl : k < ls.length
    · have hkm : k < ms.length := by omega
      have hc1 := cellLater hbl (HC.out k hkl).1
      have hc2 := cellLater hbl (HC.out k hkl).2
      have hd1 := cellLater hbl (HC'.out k hkm).1
      have hd2 := cellLater hbl (HC'.out k hkm).2
      have hne := fun W => run_neq_lab ls[k] (ms[k]'hkm) W
      by_cases hq : ls[k] = ms[k]'hkm
      · have htk : ls.take (k + 1) = ms.take (k + 1) := by
          rw [List.take_succ_eq_append_getElem hkl, List.take_succ_eq_append_getElem hkm, HE.out, hq]
        have HT := Lib.hid htk
        rw [decide_eq_true hq] at hne
        clear htk hq
        go_wp2_with fail
        go_quiet (fail)
        go_wp2
        go_roundw
        case rel => exact ⟨k + 1, by omega, by go_num, HT.out, below_drewN hbl _⟩
        case measure => simp [intOf]; omega
      · have hf : decide (ls = ms) = false := by
          rw [decide_eq_false_iff_not]
          intro e
          subst e
          exact hq rfl
        have HF := Lib.hid hf
        rw [decide_eq_false hq] at hne
        clear hq hf
        go_wp2_with fail
        go_quiet (fail)
        go_wp2
        go_ret
        rw [HF.out]
        exact ⟨rfl, below_drewN hbl _⟩
    · have ht : decide (ls = ms) = true := by
        have := HE.out
        rw [List.take_of_length_le (by omega), List.take_of_length_le (by omega)] at this
        rw [decide_eq_true_iff]; exact this
      go_wp2
      go_ret
      rw [ht]
      exact ⟨rfl, hbl⟩

theorem equalL_any (a a' : Option Addr) (c c' : Nat) (ls ms : List Lab) (w : World) (h : HasLabs w a c ls) (h' : HasLabs w a' c' ms) :
    Calls Tryz.prog 35 #[.slice a ls.length c, .slice a' ms.length c'] w (BoolB (decide (ls = ms)) w) := by
  obtain ⟨h1, h2, h3, h4⟩ := h
  obtain ⟨g1, g2, g3, g4⟩ := h'
  unfold maxLen at h2 g2
  by_cases hl : ls.length = ms.length
  · rcases h4 with rfl | ⟨b, off, rfl, hb, hc⟩
    · obtain rfl : ms = [] := List.eq_nil_of_length_eq_zero hl.symm
      go_enter Tryz.func35, Tryz.ntmps35
      go_wp2
      refine wp_loop_rounds 1 ?_
      rw [rounds_succ]
      go_wp2
      go_ret
      exact ⟨rfl, Below.refl _ _⟩
    · rcases g4 with rfl | ⟨b', off', rfl, hb', hc'⟩
      · obtain rfl : ls = [] := List.eq_nil_of_length_eq_zero hl
        go_enter Tryz.func35, Tryz.ntmps35
        go_wp2
        refine wp_loop_rounds 1 ?_
        rw [rounds_succ]
        go_wp2
        go_ret
        exact ⟨rfl, Below.refl _ _⟩
      · exact equalL_some b off c b' off' c' ls ms w h1 (by unfold maxLen; omega) g1 (by unfold maxLen; omega) hb hb' hc hc' hl
  · have hlen : ((ls.length : Int) != (ms.length : Int)) = true := by rw [bne_iff_ne]; omega
    have hf : decide (ls = ms) = false := by
      rw [decide_eq_false_iff_not]
      intro e
      exact hl (by rw [e])
    rw [hf]
    clear hl hf h3 h4 g3 g4
    go_enter Tryz.func35, Tryz.ntmps35
    go_wp2
    go_ret
    exact ⟨rfl, Below.refl _ _⟩

end Go.Proofs.YtdlhmjdjoadioabGreatDoor
