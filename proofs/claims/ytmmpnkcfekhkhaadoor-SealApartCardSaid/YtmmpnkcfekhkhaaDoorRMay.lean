/- The contract of the document's own May of layer 2. -/
import Derived.Test.YtmmpnkcfekhkhaaDoorSeal
namespace Go.Proofs.YtmmpnkcfekhkhaaDoor
open Go.RowKit

theorem rmay_any (a : Option Addr) (c : Nat) (ss : List ByteArray) (w : World) (h : HasStrs w a c ss) :
    Calls Tryd.prog 23 #[.slice a ss.length c] w fun e w' => e = .returned (.bool (mayC ss)) ∧ w = w' := by
  obtain ⟨h1, h2, h3, h4⟩ := h
  unfold maxLen at h2
  have HM := Lib.hid h3
  clear h3
  rcases h4 with rfl | ⟨b, off, rfl, hb, hcell⟩
  · go_enter Tryd.func23, Tryd.ntmps23
    go_wp2
    refine wp_loop_rounds 1 ?_
    rw [rounds_succ]
    go_wp2
    go_ret
    exact ⟨rfl, rfl⟩
  · have HC := Lib.hid hcell
    clear hcell
    by_cases hall : ∀ s ∈ ss, s.size ≤ 4096
    · have hres : mayC ss = decide (ss.length ≤ 64) := by
        have : (ss.all fun s => decide (s.size ≤ 4096)) = true := by simpa using hall
        rw [mayC, this, Bool.and_true]
      have HR := Lib.hid hres
      have HA := Lib.hid hall
      clear hres hall
      go_enter Tryd.func23, Tryd.ntmps23
      go_wp2
      go_loop [7] (fun i => ∃ k : Nat, k ≤ ss.length ∧ i = .int .i64 k) (fun i => ss.length - (intOf i).toNat)
      case atStart => exact ⟨0, Nat.zero_le _, rfl⟩
      case round =>
        obtain ⟨k, hk, rfl⟩ := hrel
        by_cases hkl : k < ss.length
        · have hc := HC.out k hkl
          have hs := HA.out ss[k] (List.getElem_mem _)
          go_wp2
          go_round
          case rel => exact ⟨k + 1, by omega, by go_num⟩
          case measure => simp [intOf]; omega
        · go_wp2
          go_ret
          rw [HR.out]
          refine ⟨?_, rfl⟩
          show Ending.returned (.bool (decide ((ss.length : Int) ≤ 64))) = _
          congr 2
          exact decide_eq_decide.2 (by omega)
    · obtain ⟨j, hj, hbad, hok⟩ := first_bad (fun s => s.size ≤ 4096) ss hall
      have hres : mayC ss = false := by
        rw [← Bool.not_eq_true]
        intro hm
        exact hall (mayC_true hm).2
      have HR := Lib.hid hres
      have HA := Lib.hid hok
      clear hres hall hok
      go_enter Tryd.func23, Tryd.ntmps23
      go_wp2
      go_loop [7] (fun i => ∃ k : Nat, k ≤ j ∧ i = .int .i64 k) (fun i => ss.length - (intOf i).toNat)
      case atStart => exact ⟨0, Nat.zero_le _, rfl⟩
      case round =>
        obtain ⟨k, hk, rfl⟩ := hrel
        have hc := HC.out k (by omega)
        have hs := HM.out ss[k] (List.getElem_mem _)
        unfold maxLen at hs
        by_cases hkl : k = j
        · subst hkl
          go_wp2
          go_ret
          rw [HR.out]
          exact ⟨rfl, rfl⟩
        · have hs := HA.out k (by omega)
          go_wp2
          go_round
          case rel => exact ⟨k + 1, by omega, by go_num⟩
          case measure => simp [intOf]; omega
end Go.Proofs.YtmmpnkcfekhkhaaDoor
