/- The contracts of the document's own Word, Right, Holds of layer 4. -/
import Derived.Test.YtmhehojjlacfoaaDoorMatB
import Derived.Test.YtmhehojjlacfoaaDoorLabU
namespace Go.Proofs.YtmhehojjlacfoaaDoor
open Go.RowKit Go.Maps

set_option maxHeartbeats 6400000 in
theorem rWord_any (s : ByteArray) (w : World) (hs : s.size ≤ maxLen) : Calls Tryd.prog 81 #[.string s] w (Bool1 (wordC s.data.toList) w) := by
  unfold maxLen at hs
  have hl : s.data.toList.length = s.size := by simp
  by_cases hall : s.data.toList.all wordB = true
  · have hR : wordC s.data.toList = decide (s.size ≤ 64) := by unfold wordC; rw [hl, hall]; simp
    have HA := Lib.hid (wordB_at hall)
    rw [hR]
    clear hR hl hall
    go_enter Tryd.func81, Tryd.ntmps81
    go_wp2
    go_loop [3, 4, 5] (fun i _ _ => ∃ k : Nat, k ≤ s.size ∧ i = .int .i64 k) (fun i _ _ => s.size - (intOf i).toNat)
    case atStart => exact ⟨0, Nat.zero_le _, rfl⟩
    case round =>
      obtain ⟨k, hk, rfl⟩ := hrel
      by_cases hkl : k < s.size
      · have hw := HA.out k hkl
        rw [wordB_is] at hw
        obtain ⟨n, hn⟩ : ∃ n, s[k].toNat = n := ⟨_, rfl⟩
        rw [hn] at hw
        simp only [Bool.or_eq_true, decide_eq_true_eq] at hw
        by_cases h1 : 97 ≤ n <;> by_cases h2 : n ≤ 122 <;> by_cases h3 : 65 ≤ n <;> by_cases h4 : n ≤ 90 <;> by_cases h5 : 48 ≤ n <;> by_cases h6 : n ≤ 57 <;> (try omega)
        all_goals first
          | (clear hw
             go_wp2
             go_round
             case rel => exact ⟨k + 1, by omega, by go_num⟩
             case measure => simp [intOf]; omega
             done)
          | (have h7 : n = 95 ∨ n = 45 ∨ n = 46 ∨ n = 47 ∨ n = 58 := by omega
             clear hw
             rcases h7 with h | h | h | h | h
             · have f1 : ((n : Int) != 95) = false := by rw [h]; rfl
               clear h
               go_wp2
               go_round
               case rel => exact ⟨k + 1, by omega, by go_num⟩
               case measure => simp [intOf]; omega
             · have f1 : ((n : Int) != 95) = true := by rw [h]; rfl
               have f2 : ((n : Int) != 45) = false := by rw [h]; rfl
               clear h
               go_wp2
               go_round
               case rel => exact ⟨k + 1, by omega, by go_num⟩
               case measure => simp [intOf]; omega
             · have f1 : ((n : Int) != 95) = true := by rw [h]; rfl
               have f2 : ((n : Int) != 45) = true := by rw [h]; rfl
               have f3 : ((n : Int) != 46) = false := by rw [h]; rfl
               clear h
               go_wp2
               go_round
               case rel => exact ⟨k + 1, by omega, by go_num⟩
               case measure => simp [intOf]; omega
             · have f1 : ((n : Int) != 95) = true := by rw [h]; rfl
               have f2 : ((n : Int) != 45) = true := by rw [h]; rfl
               have f3 : ((n : Int) != 46) = true := by rw [h]; rfl
               have f4 : ((n : Int) != 47) = false := by rw [h]; rfl
               clear h
               go_wp2
               go_round
               case rel => exact ⟨k + 1, by omega, by go_num⟩
               case measure => simp [intOf]; omega
             · have f1 : ((n : Int) != 95) = true := by rw [h]; rfl
               have f2 : ((n : Int) != 45) = true := by rw [h]; rfl
               have f3 : ((n : Int) != 46) = true := by rw [h]; rfl
               have f4 : ((n : Int) != 47) = true := by rw [h]; rfl
               have f5 : ((n : Int) != 58) = false := by rw [h]; rfl
               clear h
               go_wp2
               go_round
               case rel => exact ⟨k + 1, by omega, by go_num⟩
               case measure => simp [intOf]; omega)
      · by_cases h64 : s.size ≤ 64
        · go_wp2
          go_ret
          exact ⟨by show Ending.returned (.bool (decide ((s.size : Int) ≤ 64))) = _; rw [decide_eq_true (by omega)], rfl⟩
        · go_wp2
          go_ret
          exact ⟨by show Ending.returned (.bool (decide ((s.size : Int) ≤ 64))) = _; rw [decide_eq_false (by omega)], rfl⟩
  · obtain ⟨j, hj, hbad, hok⟩ := all_not s hall
    have hR : wordC s.data.toList = false := by unfold wordC; simp only [Bool.not_eq_true] at hall; rw [hall]; simp
    have HA := Lib.hid hok
    have HB := Lib.hid hbad
    rw [hR]
    clear hR hl hall hok hbad
    go_enter Tryd.func81, Tryd.ntmps81
    go_wp2
    go_loop [3, 4, 5] (fun i _ _ => ∃ k : Nat, k ≤ j ∧ i = .int .i64 k) (fun i _ _ => s.size - (intOf i).toNat)
    case atStart => exact ⟨0, Nat.zero_le _, rfl⟩
    case round =>
      obtain ⟨k, hk, rfl⟩ := hrel
      have hks : k < s.size := by omega
      by_cases hkl : k = j
      · subst hkl
        have hb := HB.out
        rw [wordB_is] at hb
        obtain ⟨n, hn⟩ : ∃ n, s[k].toNat = n := ⟨_, rfl⟩
        rw [hn] at hb
        simp only [Bool.or_eq_false_iff, decide_eq_false_iff_not] at hb
        have f1 : ((n : Int) != 95) = true := by rw [bne_iff_ne]; omega
        have g1 : ((n : Int) == 95) = false := by rw [beq_eq_false_iff_ne]; omega
        have f2 : ((n : Int) != 45) = true := by rw [bne_iff_ne]; omega
        have g2 : ((n : Int) == 45) = false := by rw [beq_eq_false_iff_ne]; omega
        have f3 : ((n : Int) != 46) = true := by rw [bne_iff_ne]; omega
        have g3 : ((n : Int) == 46) = false := by rw [beq_eq_false_iff_ne]; omega
        have f4 : ((n : Int) != 47) = true := by rw [bne_iff_ne]; omega
        have g4 : ((n : Int) == 47) = false := by rw [beq_eq_false_iff_ne]; omega
        have f5 : ((n : Int) != 58) = true := by rw [bne_iff_ne]; omega
        have g5 : ((n : Int) == 58) = false := by rw [beq_eq_false_iff_ne]; omega
        by_cases h1 : 97 ≤ n <;> by_cases h2 : n ≤ 122 <;> by_cases h3 : 65 ≤ n <;> by_cases h4 : n ≤ 90 <;> by_cases h5 : 48 ≤ n <;> by_cases h6 : n ≤ 57 <;> (try omega)
        all_goals
          (try have d1 : decide ((97 : Int) ≤ (n : Int)) = false := decide_eq_false (by omega))
          (try have d2 : decide ((n : Int) ≤ 122) = false := decide_eq_false (by omega))
          (try have d3 : decide ((65 : Int) ≤ (n : Int)) = false := decide_eq_false (by omega))
          (try have d4 : decide ((n : Int) ≤ 90) = false := decide_eq_false (by omega))
          (try have d5 : decide ((48 : Int) ≤ (n : Int)) = false := decide_eq_false (by omega))
          (try have d6 : decide ((n : Int) ≤ 57) = false := decide_eq_false (by omega))
          clear hb
          go_wp2
          go_ret
          exact ⟨rfl, rfl⟩
      · have hw := HA.out k (by omega)
        rw [wordB_is] at hw
        obtain ⟨n, hn⟩ : ∃ n, s[k].toNat = n := ⟨_, rfl⟩
        rw [hn] at hw
        simp only [Bool.or_eq_true, decide_eq_true_eq] at hw
        by_cases h1 : 97 ≤ n <;> by_cases h2 : n ≤ 122 <;> by_cases h3 : 65 ≤ n <;> by_cases h4 : n ≤ 90 <;> by_cases h5 : 48 ≤ n <;> by_cases h6 : n ≤ 57 <;> (try omega)
        all_goals first
          | (clear hw
             go_wp2
             go_round
             case rel => exact ⟨k + 1, by omega, by go_num⟩
             case measure => simp [intOf]; omega
             done)
          | (have h7 : n = 95 ∨ n = 45 ∨ n = 46 ∨ n = 47 ∨ n = 58 := by omega
             clear hw
             rcases h7 with h | h | h | h | h
             · have f1 : ((n : Int) != 95) = false := by rw [h]; rfl
               clear h
               go_wp2
               go_round
               case rel => exact ⟨k + 1, by omega, by go_num⟩
               case measure => simp [intOf]; omega
             · have f1 : ((n : Int) != 95) = true := by rw [h]; rfl
               have f2 : ((n : Int) != 45) = false := by rw [h]; rfl
               clear h
               go_wp2
               go_round
               case rel => exact ⟨k + 1, by omega, by go_num⟩
               case measure => simp [intOf]; omega
             · have f1 : ((n : Int) != 95) = true := by rw [h]; rfl
               have f2 : ((n : Int) != 45) = true := by rw [h]; rfl
               have f3 : ((n : Int) != 46) = false := by rw [h]; rfl
               clear h
               go_wp2
               go_round
               case rel => exact ⟨k + 1, by omega, by go_num⟩
               case measure => simp [intOf]; omega
             · have f1 : ((n : Int) != 95) = true := by rw [h]; rfl
               have f2 : ((n : Int) != 45) = true := by rw [h]; rfl
               have f3 : ((n : Int) != 46) = true := by rw [h]; rfl
               have f4 : ((n : Int) != 47) = false := by rw [h]; rfl
               clear h
               go_wp2
               go_round
               case rel => exact ⟨k + 1, by omega, by go_num⟩
               case measure => simp [intOf]; omega
             · have f1 : ((n : Int) != 95) = true := by rw [h]; rfl
               have f2 : ((n : Int) != 45) = true := by rw [h]; rfl
               have f3 : ((n : Int) != 46) = true := by rw [h]; rfl
               have f4 : ((n : Int) != 47) = true := by rw [h]; rfl
               have f5 : ((n : Int) != 58) = false := by rw [h]; rfl
               clear h
               go_wp2
               go_round
               case rel => exact ⟨k + 1, by omega, by go_num⟩
               case measure => simp [intOf]; omega)
end Go.Proofs.YtmhehojjlacfoaaDoor
