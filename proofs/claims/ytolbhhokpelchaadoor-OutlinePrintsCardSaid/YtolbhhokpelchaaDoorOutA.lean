/- The contracts of what asks words and names of nodes: outline.isSmall, isDigit, rightWord, rightName. -/
import Derived.Test.YtolbhhokpelchaaDoorOutM
import Derived.Test.YtolbhhokpelchaaDoorSlcS
namespace Go.Proofs.YtolbhhokpelchaaDoor
open Go.RowKit

theorem oSmall_any (n : Nat) (w : World) : Calls Tryd.prog 97 #[.int .u8 (n : Int)] w (BoolS (decide (97 ≤ n ∧ n ≤ 122)) w) := by
  by_cases h1 : 97 ≤ n <;> by_cases h2 : n ≤ 122 <;> (try omega)
  all_goals
    go_enter Tryd.func97, Tryd.ntmps97
    go_wp2
    go_ret
    exact ⟨by first | (simp [h1, h2]; done) | (simp [h1, h2]; omega), rfl⟩
theorem oDigit_any (n : Nat) (w : World) : Calls Tryd.prog 98 #[.int .u8 (n : Int)] w (BoolS (decide (48 ≤ n ∧ n ≤ 57)) w) := by
  by_cases h1 : 48 ≤ n <;> by_cases h2 : n ≤ 57 <;> (try omega)
  all_goals
    go_enter Tryd.func98, Tryd.ntmps98
    go_wp2
    go_ret
    exact ⟨by first | (simp [h1, h2]; done) | (simp [h1, h2]; omega), rfl⟩

set_option maxHeartbeats 1600000 in
theorem oWord_any (s : ByteArray) (w : World) (hs : s.size ≤ maxLen) : Calls Tryd.prog 71 #[.string s] w (BoolS (owC s.data.toList) w) := by
  unfold maxLen at hs
  have hl := lenB s
  by_cases h2 : s.size ≤ 200
  case neg =>
    have hR : owC s.data.toList = false := by unfold owC; rw [hl]; simp [h2]
    rw [hR]
    clear hR hl
    go_enter Tryd.func71, Tryd.ntmps71
    go_wp2
    go_ret
    exact ⟨rfl, rfl⟩
  obtain ⟨J, hJ, hok, hend⟩ : ∃ J, J ≤ s.size ∧ (∀ k (h : k < s.size), k < J → owB s[k] = true) ∧ (J = s.size ∧ owC s.data.toList = true ∨ ∃ h : J < s.size, owB s[J] = false ∧ owC s.data.toList = false) := by
    by_cases hall : s.data.toList.all owB = true
    · exact ⟨s.size, Nat.le_refl _, fun k h _ => bytesAll hall k h, .inl ⟨rfl, by unfold owC; rw [hl, hall]; simp [h2]⟩⟩
    · obtain ⟨j, hj, hbad, hok⟩ := bytesNot s hall
      exact ⟨j, by omega, fun k _ hk => hok k hk, .inr ⟨hj, hbad, by unfold owC; simp only [Bool.not_eq_true] at hall; rw [hall]; simp⟩⟩
  obtain ⟨R, hR⟩ : ∃ R, owC s.data.toList = R := ⟨_, rfl⟩
  rw [hR] at hend ⊢
  have HA := Lib.hid hok
  have HE := Lib.hid hend
  clear hR hl hok hend
  go_enter Tryd.func71, Tryd.ntmps71
  go_wp2
  go_loop [3] (fun i => ∃ k : Nat, k ≤ J ∧ i = .int .i64 k) (fun i => s.size - (intOf i).toNat)
  case atStart => exact ⟨0, Nat.zero_le _, rfl⟩
  case round =>
    obtain ⟨k, hk, rfl⟩ := hrel
    by_cases hkl : k < s.size
    · by_cases hkJ : k = J
      · subst hkJ
        rcases HE.out with ⟨h, _⟩ | ⟨_, hbad, hR⟩
        · omega
        · subst hR
          simp only [owB, decide_eq_false_iff_not] at hbad
          obtain ⟨n, hn⟩ : ∃ n, s[k].toNat = n := ⟨_, rfl⟩
          rw [hn] at hbad
          by_cases a1 : 32 ≤ n
          · have a2 : ¬ n ≤ 126 := fun h => hbad ⟨a1, h⟩
            clear hbad
            go_wp2
            go_ret
            exact ⟨rfl, rfl⟩
          · clear hbad
            go_wp2
            go_ret
            exact ⟨rfl, rfl⟩
      · have hgood := HA.out k hkl (by omega)
        simp only [owB, decide_eq_true_eq] at hgood
        obtain ⟨a1, a2⟩ := hgood
        go_wp2
        go_round
        case rel => exact ⟨k + 1, by omega, by go_num⟩
        case measure => simp [intOf]; omega
    · rcases HE.out with ⟨_, hR⟩ | ⟨h, _⟩
      · subst hR
        go_wp2
        go_ret
        exact ⟨rfl, rfl⟩
      · omega

set_option maxHeartbeats 3200000 in
theorem oName_any (s : ByteArray) (w : World) (hs : s.size ≤ maxLen) : Calls Tryd.prog 81 #[.string s] w (BoolS (bwC s.data.toList) w) := by
  unfold maxLen at hs
  have hl := lenB s
  by_cases h1 : 1 ≤ s.size
  case neg =>
    have hR : bwC s.data.toList = false := by unfold bwC; rw [hl]; simp [h1]
    rw [hR]
    clear hR hl
    go_enter Tryd.func81, Tryd.ntmps81
    go_wp2
    go_ret
    exact ⟨rfl, rfl⟩
  by_cases h2 : s.size ≤ 64
  case neg =>
    have hR : bwC s.data.toList = false := by unfold bwC; rw [hl]; simp [h2]
    rw [hR]
    clear hR hl
    go_enter Tryd.func81, Tryd.ntmps81
    go_wp2
    go_ret
    exact ⟨rfl, rfl⟩
  obtain ⟨J, hJ, hok, hend⟩ : ∃ J, J ≤ s.size ∧ (∀ k (h : k < s.size), k < J → bwB s[k] = true) ∧ (J = s.size ∧ bwC s.data.toList = true ∨ ∃ h : J < s.size, bwB s[J] = false ∧ bwC s.data.toList = false) := by
    by_cases hall : s.data.toList.all bwB = true
    · exact ⟨s.size, Nat.le_refl _, fun k h _ => bytesAll hall k h, .inl ⟨rfl, by unfold bwC; rw [hl, hall]; simp [h1, h2]⟩⟩
    · obtain ⟨j, hj, hbad, hok⟩ := bytesNot s hall
      exact ⟨j, by omega, fun k _ hk => hok k hk, .inr ⟨hj, hbad, by unfold bwC; simp only [Bool.not_eq_true] at hall; rw [hall]; simp⟩⟩
  obtain ⟨R, hR⟩ : ∃ R, bwC s.data.toList = R := ⟨_, rfl⟩
  rw [hR] at hend ⊢
  have HA := Lib.hid hok
  have HE := Lib.hid hend
  clear hR hl hok hend
  go_enter Tryd.func81, Tryd.ntmps81
  go_wp2
  go_loop [3] (fun i => ∃ k : Nat, k ≤ J ∧ i = .int .i64 k) (fun i => s.size - (intOf i).toNat)
  case atStart => exact ⟨0, Nat.zero_le _, rfl⟩
  case round =>
    obtain ⟨k, hk, rfl⟩ := hrel
    by_cases hkl : k < s.size
    · obtain ⟨n, hn⟩ : ∃ n, s[k].toNat = n := ⟨_, rfl⟩
      obtain ⟨S, hS⟩ : ∃ S, decide (97 ≤ n ∧ n ≤ 122) = S := ⟨_, rfl⟩
      obtain ⟨D, hD⟩ : ∃ D, decide (48 ≤ n ∧ n ≤ 57) = D := ⟨_, rfl⟩
      obtain ⟨U, hU⟩ : ∃ U, decide (n = 95) = U := ⟨_, rfl⟩
      have hSS := fun W => oSmall_any n W
      have hDD := fun W => oDigit_any n W
      rw [hS] at hSS
      rw [hD] at hDD
      have hb : bwB s[k] = (S || D || U) := by
        rw [bwB, hn, ← hS, ← hD, ← hU, Bool.eq_iff_iff]
        simp only [Bool.or_eq_true, decide_eq_true_eq]
        omega
      have hu : ((n : Int) != 95) = !U := by
        rw [← hU]
        by_cases h : n = 95
        · rw [h]; rfl
        · rw [decide_eq_false h, bne_iff_ne.2 (by omega)]; rfl
      have HS := Lib.hid hSS
      have HD := Lib.hid hDD
      have HU := Lib.hid hu
      have HBB := Lib.hid hb
      clear hSS hDD hu hb hS hD hU
      by_cases hkJ : k = J
      · subst hkJ
        rcases HE.out with ⟨h, _⟩ | ⟨_, hbad, hR⟩
        · omega
        · subst hR
          have hz := HBB.out
          rw [hbad] at hz
          clear hbad
          cases S <;> cases D <;> cases U <;> simp at hz
          have hu2 : ((n : Int) != 95) = true := HU.out
          go_wp2_with (first
            | (go_at_call 97; refine (HS.out _).mono ?_; rintro e w2 ⟨rfl, rfl⟩)
            | (go_at_call 98; refine (HD.out _).mono ?_; rintro e w2 ⟨rfl, rfl⟩))
          go_ret
          exact ⟨rfl, rfl⟩
      · have hgood := HA.out k hkl (by omega)
        have hz := HBB.out
        rw [hgood] at hz
        clear hgood
        have hu2 := HU.out
        cases S <;> cases D <;> cases U <;> simp only [Bool.or_false, Bool.or_true, Bool.not_false, Bool.not_true, Bool.true_eq_false, Bool.or_self] at hz hu2
        all_goals
          (try (cases hz; done))
          go_wp2_with (first
            | (go_at_call 97; refine (HS.out _).mono ?_; rintro e w2 ⟨rfl, rfl⟩)
            | (go_at_call 98; refine (HD.out _).mono ?_; rintro e w2 ⟨rfl, rfl⟩))
          go_round
          case rel => exact ⟨k + 1, by omega, by go_num⟩
          case measure => simp [intOf]; omega
    · rcases HE.out with ⟨_, hR⟩ | ⟨h, _⟩
      · subst hR
        go_wp2_with fail
        go_ret
        exact ⟨rfl, rfl⟩
      · omega
end Go.Proofs.YtolbhhokpelchaaDoor
