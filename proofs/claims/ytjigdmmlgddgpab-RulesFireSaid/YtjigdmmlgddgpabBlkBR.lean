/- The contract of the document's own Word of layer 6. -/
import Derived.Test.YtjigdmmlgddgpabBlkA
import Derived.Test.YtjigdmmlgddgpabSlcS
import Derived.Test.YtjigdmmlgddgpabStrs
import Derived.Deep.QuietTactic
import Derived.BigQuiet
namespace Go.Proofs.Ytjigdmmlgddgpab
open Go.RowKit

set_option maxHeartbeats 3200000 in
theorem rbWord_any (s : ByteArray) (w : World) (hs : s.size ≤ maxLen) : Calls Try.prog 23 #[.string s] w (BoolS (bwC s.data.toList) w) := by
  unfold maxLen at hs
  have hl := lenB s
  by_cases hall : s.data.toList.all bwB = true
  · have hR : bwC s.data.toList = (decide (1 ≤ s.size) && decide (s.size ≤ 64)) := by unfold bwC; rw [hl, hall]; simp
    have HA := Lib.hid (bytesAll hall)
    rw [hR]
    clear hR hl hall
    by_cases h1 : 1 ≤ s.size <;> by_cases h2 : s.size ≤ 64 <;> (try omega)
    all_goals
      go_enter Try.func23, Try.ntmps23
      go_wp2
      go_loop [3, 4] (fun i _ => ∃ k : Nat, k ≤ s.size ∧ i = .int .i64 k) (fun i _ => s.size - (intOf i).toNat)
      case atStart => exact ⟨0, Nat.zero_le _, rfl⟩
      case round =>
        obtain ⟨k, hk, rfl⟩ := hrel
        by_cases hkl : k < s.size
        · have hw := HA.out k hkl
          obtain ⟨n, hn⟩ : ∃ n, s[k].toNat = n := ⟨_, rfl⟩
          simp only [bwB, decide_eq_true_eq] at hw
          rw [hn] at hw
          by_cases a1 : 97 ≤ n <;> by_cases a2 : n ≤ 122 <;> by_cases a5 : 48 ≤ n <;> by_cases a6 : n ≤ 57 <;> (try omega)
          all_goals first
            | (clear hw
               go_wp2
               go_round
               case rel => exact ⟨k + 1, by omega, by go_num⟩
               case measure => simp [intOf]; omega
               done)
            | (have h : n = 95 := by omega
               have f1 : ((n : Int) != 95) = false := by rw [h]; rfl
               clear h hw
               go_wp2
               go_round
               case rel => exact ⟨k + 1, by omega, by go_num⟩
               case measure => simp [intOf]; omega)
        · go_wp2
          go_ret
          exact ⟨by first | (simp_all; done) | (simp_all; omega), rfl⟩
  · obtain ⟨j, hj, hbad, hok⟩ := bytesNot s hall
    have hR : bwC s.data.toList = false := by unfold bwC; simp only [Bool.not_eq_true] at hall; rw [hall]; simp
    have HA := Lib.hid hok
    have HB := Lib.hid hbad
    rw [hR]
    clear hR hl hall hok hbad
    go_enter Try.func23, Try.ntmps23
    go_wp2
    go_loop [3, 4] (fun i _ => ∃ k : Nat, k ≤ j ∧ i = .int .i64 k) (fun i _ => s.size - (intOf i).toNat)
    case atStart => exact ⟨0, Nat.zero_le _, rfl⟩
    case round =>
      obtain ⟨k, hk, rfl⟩ := hrel
      by_cases hkl : k = j
      · subst hkl
        have hb := HB.out
        obtain ⟨n, hn⟩ : ∃ n, s[k].toNat = n := ⟨_, rfl⟩
        simp only [bwB, decide_eq_false_iff_not] at hb
        rw [hn] at hb
        have f1 : ((n : Int) != 95) = true := by rw [bne_iff_ne]; omega
        by_cases a1 : 97 ≤ n <;> by_cases a2 : n ≤ 122 <;> by_cases a5 : 48 ≤ n <;> by_cases a6 : n ≤ 57 <;> (try omega)
        all_goals
          clear hb
          go_wp2
          go_ret
          exact ⟨rfl, rfl⟩
      · have hw := HA.out k (by omega)
        have hkz : k < s.size := by omega
        obtain ⟨n, hn⟩ : ∃ n, (s[k]'hkz).toNat = n := ⟨_, rfl⟩
        simp only [bwB, decide_eq_true_eq] at hw
        rw [hn] at hw
        by_cases a1 : 97 ≤ n <;> by_cases a2 : n ≤ 122 <;> by_cases a5 : 48 ≤ n <;> by_cases a6 : n ≤ 57 <;> (try omega)
        all_goals first
          | (clear hw
             go_wp2
             go_round
             case rel => exact ⟨k + 1, by omega, by go_num⟩
             case measure => simp [intOf]; omega
             done)
          | (have h : n = 95 := by omega
             have f1 : ((n : Int) != 95) = false := by rw [h]; rfl
             clear h hw
             go_wp2
             go_round
             case rel => exact ⟨k + 1, by omega, by go_num⟩
             case measure => simp [intOf]; omega)

end Go.Proofs.Ytjigdmmlgddgpab
