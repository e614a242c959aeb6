/- The contracts of what asks words and values of blocks: block.isWordByte, rightWord, rightValue. -/
import Derived.Test.YtmhekhilgllciaaGreatBlkM
import Derived.Test.YtmhekhilgllciaaGreatBlkG
import Derived.Test.YtmhekhilgllciaaGreatInfo
import Derived.WalkLawsBesides
import Derived.IntWalk
namespace Go.Proofs.YtmhekhilgllciaaGreat
open Go.RowKit

theorem bWordByte_any (c : UInt8) (w : World) : Calls Tryz.prog 220 #[.int .u8 (c.toNat : Int)] w (BoolS (bwB c) w) := by
  have e : bwB c = decide (97 ≤ c.toNat ∧ c.toNat ≤ 122 ∨ 48 ≤ c.toNat ∧ c.toNat ≤ 57 ∨ c.toNat = 95) := rfl
  rw [e]
  clear e
  generalize c.toNat = n
  by_cases e1 : n = 95
  · subst e1
    go_enter Tryz.func220, Tryz.ntmps220
    go_wp2
    go_ret
    exact ⟨rfl, rfl⟩
  have f1 : ((n : Int) == 95) = false := beq_eq_false_iff_ne.2 (by omega)
  by_cases h1 : 97 ≤ n <;> by_cases h2 : n ≤ 122 <;> by_cases h5 : 48 ≤ n <;> by_cases h6 : n ≤ 57 <;> (try omega)
  all_goals
    go_enter Tryz.func220, Tryz.ntmps220
    go_wp2
    go_ret
    exact ⟨by first | (simp [h1, h2, h5, h6, e1]; done) | (simp [h1, h2, h5, h6, e1]; omega), rfl⟩

set_option maxHeartbeats 800000 in
theorem bWord_any (s : ByteArray) (w : World) (hs : s.size ≤ maxLen) : Calls Tryz.prog 186 #[.string s] w (BoolS (bwC s.data.toList) w) := by
  unfold maxLen at hs
  have hl := lenB s
  by_cases h1 : 1 ≤ s.size
  case neg =>
    have hR : bwC s.data.toList = false := by unfold bwC; rw [hl]; simp [h1]
    rw [hR]
    clear hR hl
    go_enter Tryz.func186, Tryz.ntmps186
    go_wp2
    go_ret
    exact ⟨rfl, rfl⟩
  by_cases h2 : s.size ≤ 64
  case neg =>
    have hR : bwC s.data.toList = false := by unfold bwC; rw [hl]; simp [h2]
    rw [hR]
    clear hR hl
    go_enter Tryz.func186, Tryz.ntmps186
    go_wp2
    go_ret
    exact ⟨rfl, rfl⟩
  by_cases hall : s.data.toList.all bwB = true
  · have hR : bwC s.data.toList = true := by unfold bwC; rw [hl, hall]; simp [h1, h2]
    have HA := Lib.hid (bytesAll hall)
    rw [hR]
    clear hR hl hall
    go_enter Tryz.func186, Tryz.ntmps186
    go_wp2
    go_loop [3] (fun i => ∃ k : Nat, k ≤ s.size ∧ i = .int .i64 k) (fun i => s.size - (intOf i).toNat)
    case atStart => exact ⟨0, Nat.zero_le _, rfl⟩
    case round =>
      obtain ⟨k, hk, rfl⟩ := hrel
      by_cases hkl : k < s.size
      · have hw := HA.out k hkl
        go_wp2_with (go_at_call 220; refine (bWordByte_any _ _).mono ?_; rintro e w2 ⟨rfl, rfl⟩)
        go_round
        case rel => exact ⟨k + 1, by omega, by go_num⟩
        case measure => simp [intOf]; omega
      · go_wp2
        go_ret
        exact ⟨rfl, rfl⟩
  · obtain ⟨j, hj, hbad, hok⟩ := bytesNot s hall
    have hR : bwC s.data.toList = false := by unfold bwC; simp only [Bool.not_eq_true] at hall; rw [hall]; simp
    have HA := Lib.hid hok
    have HB := Lib.hid hbad
    rw [hR]
    clear hR hl hall hok hbad
    go_enter Tryz.func186, Tryz.ntmps186
    go_wp2
    go_loop [3] (fun i => ∃ k : Nat, k ≤ j ∧ i = .int .i64 k) (fun i => s.size - (intOf i).toNat)
    case atStart => exact ⟨0, Nat.zero_le _, rfl⟩
    case round =>
      obtain ⟨k, hk, rfl⟩ := hrel
      by_cases hkl : k = j
      · subst hkl
        have hb := HB.out
        go_wp2_with (go_at_call 220; refine (bWordByte_any _ _).mono ?_; rintro e w2 ⟨rfl, rfl⟩)
        go_ret
        exact ⟨rfl, rfl⟩
      · have hw := HA.out k (by omega)
        have hkz : k < s.size := by omega
        go_wp2_with (go_at_call 220; refine (bWordByte_any _ _).mono ?_; rintro e w2 ⟨rfl, rfl⟩)
        go_round
        case rel => exact ⟨k + 1, by omega, by go_num⟩
        case measure => simp [intOf]; omega

theorem bvB_iff (c : UInt8) : bvB c = true ↔ 32 ≤ c.toNat ∧ c.toNat ≤ 126 ∧ c.toNat ≠ 59 := by simp [bvB]
theorem nat_beq_f {n k : Nat} (h : n ≠ k) : ((n : Int) == (k : Int)) = false := beq_eq_false_iff_ne.2 (by omega)
theorem nat_beq_t {n k : Nat} (h : n = k) : ((n : Int) == (k : Int)) = true := beq_iff_eq.2 (by omega)

set_option maxHeartbeats 1600000 in
theorem bValue_any (s : ByteArray) (w : World) (hs : s.size ≤ maxLen) : Calls Tryz.prog 187 #[.string s] w (BoolS (bvC s.data.toList) w) := by
  unfold maxLen at hs
  have hl := lenB s
  by_cases h1 : 1 ≤ s.size
  case neg =>
    have hR : bvC s.data.toList = false := by unfold bvC; rw [hl]; simp [h1]
    rw [hR]
    clear hR hl
    go_enter Tryz.func187, Tryz.ntmps187
    go_wp2
    go_ret
    exact ⟨rfl, rfl⟩
  by_cases h2 : s.size ≤ 200
  case neg =>
    have hR : bvC s.data.toList = false := by unfold bvC; rw [hl]; simp [h2]
    rw [hR]
    clear hR hl
    go_enter Tryz.func187, Tryz.ntmps187
    go_wp2
    go_ret
    exact ⟨rfl, rfl⟩
  have h00 : 0 < s.size := by omega
  have hsz : s.size - 1 < s.size := by omega
  have hE : bvE s.data.toList = (!decide ((s[0]'h00).toNat = 32) && !decide ((s[s.size - 1]'hsz).toNat = 32)) := by
    unfold bvE
    rw [hl, byteD s 0 (by omega), byteD s (s.size - 1) (by omega)]
  have q1 : IntKind.i64.wrap ((s.size : Int) - 1) = (s.size : Int) - 1 := IntWalk.i64_in _ (by omega)
  have q2 : ((s.size : Int) - 1).toNat = s.size - 1 := by omega
  have q3 : (0 : Int) ≤ (s.size : Int) - 1 := by omega
  by_cases hf : (s[0]'h00).toNat = 32
  · have hR : bvC s.data.toList = false := by unfold bvC; rw [hE]; simp [hf]
    have t1 : (((s[0]'h00).toNat : Int) == 32) = true := nat_beq_t hf
    rw [hR]
    clear hR hl hE hf
    go_enter Tryz.func187, Tryz.ntmps187
    go_wp2
    go_ret
    exact ⟨rfl, rfl⟩
  have t1 : (((s[0]'h00).toNat : Int) == 32) = false := nat_beq_f hf
  by_cases hg : (s[s.size - 1]'hsz).toNat = 32
  · have hR : bvC s.data.toList = false := by unfold bvC; rw [hE]; simp [hg]
    have t2 : (((s[s.size - 1]'hsz).toNat : Int) == 32) = true := nat_beq_t hg
    rw [hR]
    clear hR hl hE hf hg
    go_enter Tryz.func187, Tryz.ntmps187
    go_wp2
    go_ret
    exact ⟨rfl, rfl⟩
  have t2 : (((s[s.size - 1]'hsz).toNat : Int) == 32) = false := nat_beq_f hg
  by_cases hall : s.data.toList.all bvB = true
  · have hR : bvC s.data.toList = true := by unfold bvC; rw [hl, hall, hE]; simp [h1, h2, hf, hg]
    have HA := Lib.hid (bytesAll hall)
    rw [hR]
    clear hR hl hall hE hf hg
    go_enter Tryz.func187, Tryz.ntmps187
    go_wp2
    go_loop [3] (fun i => ∃ k : Nat, k ≤ s.size ∧ i = .int .i64 k) (fun i => s.size - (intOf i).toNat)
    case atStart => exact ⟨0, Nat.zero_le _, rfl⟩
    case round =>
      obtain ⟨k, hk, rfl⟩ := hrel
      by_cases hkl : k < s.size
      · obtain ⟨a1, a2, a3⟩ := (bvB_iff _).1 (HA.out k hkl)
        have t3 : ((s[k].toNat : Int) == 59) = false := nat_beq_f a3
        clear a3
        go_wp2
        go_round
        case rel => exact ⟨k + 1, by omega, by go_num⟩
        case measure => simp [intOf]; omega
      · go_wp2
        go_ret
        exact ⟨rfl, rfl⟩
  · obtain ⟨j, hj, hbad, hok⟩ := bytesNot s hall
    have hR : bvC s.data.toList = false := by unfold bvC; simp only [Bool.not_eq_true] at hall; rw [hall]; simp
    have HA := Lib.hid hok
    have HB := Lib.hid hbad
    rw [hR]
    clear hR hl hall hok hbad hE hf hg
    go_enter Tryz.func187, Tryz.ntmps187
    go_wp2
    go_loop [3] (fun i => ∃ k : Nat, k ≤ j ∧ i = .int .i64 k) (fun i => s.size - (intOf i).toNat)
    case atStart => exact ⟨0, Nat.zero_le _, rfl⟩
    case round =>
      obtain ⟨k, hk, rfl⟩ := hrel
      by_cases hkl : k = j
      · subst hkl
        have hb := HB.out
        rw [← Bool.not_eq_true, bvB_iff] at hb
        by_cases a1 : 32 ≤ s[k].toNat
        · by_cases a2 : s[k].toNat ≤ 126
          · have t3 : ((s[k].toNat : Int) == 59) = true := beq_iff_eq.2 (by omega)
            clear hb
            go_wp2
            go_ret
            exact ⟨rfl, rfl⟩
          · clear hb
            go_wp2
            go_ret
            exact ⟨rfl, rfl⟩
        · clear hb
          go_wp2
          go_ret
          exact ⟨rfl, rfl⟩
      · obtain ⟨a1, a2, a3⟩ := (bvB_iff _).1 (HA.out k (by omega))
        have hkz : k < s.size := by omega
        have t3 : (((s[k]'hkz).toNat : Int) == 59) = false := nat_beq_f a3
        clear a3
        go_wp2
        go_round
        case rel => exact ⟨k + 1, by omega, by go_num⟩
        case measure => simp [intOf]; omega
end Go.Proofs.YtmhekhilgllciaaGreat
