/- The contracts of what asks hours: hours.isNameByte, rightName, Right, isTick, hasDay, In. -/
import Derived.Test.YtkgnapojkijbgaaGreatDoorHrsM
import Derived.Test.YtkgnapojkijbgaaGreatDoorBlkG
import Derived.Test.YtkgnapojkijbgaaGreatDoorInfo
import Derived.Test.YtkgnapojkijbgaaGreatDoorLib2
import Derived.WalkLawsBesides
import Derived.IntWalk
import Derived.BigQuiet
namespace Go.Proofs.YtkgnapojkijbgaaGreatDoor
open Go.RowKit

theorem hNameByte_any (c : UInt8) (w : World) : Calls Tryz.prog 172 #[.int .u8 (c.toNat : Int)] w (BoolS (bwB c) w) := by
  have e : bwB c = decide (97 ≤ c.toNat ∧ c.toNat ≤ 122 ∨ 48 ≤ c.toNat ∧ c.toNat ≤ 57 ∨ c.toNat = 95) := rfl
  rw [e]
  clear e
  generalize c.toNat = n
  by_cases e1 : n = 95
  · subst e1
    go_enter Tryz.func172, Tryz.ntmps172
    go_wp2
    go_ret
    exact ⟨rfl, rfl⟩
  have f1 : ((n : Int) == 95) = false := beq_eq_false_iff_ne.2 (by omega)
  by_cases h1 : 97 ≤ n <;> by_cases h2 : n ≤ 122 <;> by_cases h5 : 48 ≤ n <;> by_cases h6 : n ≤ 57 <;> (try omega)
  all_goals
    go_enter Tryz.func172, Tryz.ntmps172
    go_wp2
    go_ret
    exact ⟨by first | (simp [h1, h2, h5, h6, e1]; done) | (simp [h1, h2, h5, h6, e1]; omega), rfl⟩

set_option maxHeartbeats 800000 in
theorem hName_any (s : ByteArray) (w : World) (hs : s.size ≤ maxLen) : Calls Tryz.prog 116 #[.string s] w (BoolS (bwC s.data.toList) w) := by
  unfold maxLen at hs
  have hl := lenB s
  by_cases h1 : 1 ≤ s.size
  case neg =>
    have hR : bwC s.data.toList = false := by unfold bwC; rw [hl]; simp [h1]
    rw [hR]
    clear hR hl
    go_enter Tryz.func116, Tryz.ntmps116
    go_wp2
    go_ret
    exact ⟨rfl, rfl⟩
  by_cases h2 : s.size ≤ 64
  case neg =>
    have hR : bwC s.data.toList = false := by unfold bwC; rw [hl]; simp [h2]
    rw [hR]
    clear hR hl
    go_enter Tryz.func116, Tryz.ntmps116
    go_wp2
    go_ret
    exact ⟨rfl, rfl⟩
  by_cases hall : s.data.toList.all bwB = true
  · have hR : bwC s.data.toList = true := by unfold bwC; rw [hl, hall]; simp [h1, h2]
    have HA := Lib.hid (bytesAll hall)
    rw [hR]
    clear hR hl hall
    go_enter Tryz.func116, Tryz.ntmps116
    go_wp2
    go_loop [3] (fun i => ∃ k : Nat, k ≤ s.size ∧ i = .int .i64 k) (fun i => s.size - (intOf i).toNat)
    case atStart => exact ⟨0, Nat.zero_le _, rfl⟩
    case round =>
      obtain ⟨k, hk, rfl⟩ := hrel
      by_cases hkl : k < s.size
      · have hw := HA.out k hkl
        go_wp2_with (go_at_call 172; refine (hNameByte_any _ _).mono ?_; rintro e w2 ⟨rfl, rfl⟩)
        go_round
        case rel => exact ⟨k + 1, by omega, by go_num⟩
        case measure => simp [intOf]; omega
      · go_wp2
        go_ret
        exact ⟨rfl, rfl⟩
  · obtain ⟨j, hj, hbad, hok⟩ := bytesNot s hall
    have hR : bwC s.data.toList = false := by unfold bwC; simp only [Bool.not_eq_true] at hall; rw [hall]; simp
    have HA := Lib.hid hok
    have HB := Lib.hid hbad
    rw [hR]
    clear hR hl hall hok hbad
    go_enter Tryz.func116, Tryz.ntmps116
    go_wp2
    go_loop [3] (fun i => ∃ k : Nat, k ≤ j ∧ i = .int .i64 k) (fun i => s.size - (intOf i).toNat)
    case atStart => exact ⟨0, Nat.zero_le _, rfl⟩
    case round =>
      obtain ⟨k, hk, rfl⟩ := hrel
      by_cases hkl : k = j
      · subst hkl
        have hb := HB.out
        go_wp2_with (go_at_call 172; refine (hNameByte_any _ _).mono ?_; rintro e w2 ⟨rfl, rfl⟩)
        go_ret
        exact ⟨rfl, rfl⟩
      · have hw := HA.out k (by omega)
        have hkz : k < s.size := by omega
        go_wp2_with (go_at_call 172; refine (hNameByte_any _ _).mono ?_; rintro e w2 ⟨rfl, rfl⟩)
        go_round
        case rel => exact ⟨k + 1, by omega, by go_num⟩
        case measure => simp [intOf]; omega

/-- an int that may be -/
def I64 (x : Int) : Prop := -9223372036854775808 ≤ x ∧ x ≤ 9223372036854775807

set_option maxHeartbeats 1600000 in
theorem hRight_any (n : ByteArray) (d f t : Int) (w : World) (hn : n.size ≤ maxLen) :
    Calls Tryz.prog 59 #[.agg #[.string n, .int .i64 d, .int .i64 f, .int .i64 t]] w (BoolW (bwC n.data.toList && spanC d f t) w) := by
  have hN := fun W => hName_any n W hn
  generalize bwC n.data.toList = B at *
  unfold spanC
  cases B
  · go_enter Tryz.func59, Tryz.ntmps59
    go_wp2_with (go_at_call 116; refine (hN _).mono ?_; rintro e w2 ⟨rfl, rfl⟩)
    go_ret
    exact ⟨rfl, (Below.refl _ _).alloc (Nat.le_refl _) _⟩
  by_cases h1 : 1 ≤ d <;> by_cases h2 : d ≤ 127 <;> by_cases h3 : 0 ≤ f <;> by_cases h4 : f < t <;> by_cases h5 : t ≤ 1440 <;> (try omega)
  all_goals
    go_enter Tryz.func59, Tryz.ntmps59
    go_wp2_with (go_at_call 116; refine (hN _).mono ?_; rintro e w2 ⟨rfl, rfl⟩)
    go_ret
    exact ⟨by simp [h1, h2, h3, h4, h5], (Below.refl _ _).alloc (Nat.le_refl _) _⟩

end Go.Proofs.YtkgnapojkijbgaaGreatDoor
