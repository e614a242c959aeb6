/- The contracts of outline.isGreat, isPlainByte, isPlain. -/
import Derived.Test.YtolbhhokpelchaaDoorOutA
namespace Go.Proofs.YtolbhhokpelchaaDoor
open Go.RowKit

/-- a byte that is written without quotes; a word -/
def plB (c : UInt8) : Bool := decide (97 ≤ c.toNat ∧ c.toNat ≤ 122 ∨ 65 ≤ c.toNat ∧ c.toNat ≤ 90 ∨ 48 ≤ c.toNat ∧ c.toNat ≤ 57 ∨ c.toNat = 95 ∨ c.toNat = 45 ∨ c.toNat = 46 ∨ c.toNat = 47 ∨ c.toNat = 58)
def plC (s : Bs) : Bool := s.all plB && decide (1 ≤ s.length) && !decide ((s.getD 0 0).toNat = 45)

theorem oGreat_any (n : Nat) (w : World) : Calls Tryd.prog 105 #[.int .u8 (n : Int)] w (BoolS (decide (65 ≤ n ∧ n ≤ 90)) w) := by
  by_cases h1 : 65 ≤ n <;> by_cases h2 : n ≤ 90 <;> (try omega)
  all_goals
    go_enter Tryd.func105, Tryd.ntmps105
    go_wp2
    go_ret
    exact ⟨by first | (simp [h1, h2]; done) | (simp [h1, h2]; omega), rfl⟩

theorem nbeqF {n m : Nat} (h : ¬ n = m) : ((n : Int) == (m : Int)) = false := beq_eq_false_iff_ne.2 (by omega)
set_option maxHeartbeats 1600000 in
theorem oPlainByte_any (c : UInt8) (w : World) : Calls Tryd.prog 103 #[.int .u8 (c.toNat : Int)] w (BoolS (plB c) w) := by
  have e : plB c = decide (97 ≤ c.toNat ∧ c.toNat ≤ 122 ∨ 65 ≤ c.toNat ∧ c.toNat ≤ 90 ∨ 48 ≤ c.toNat ∧ c.toNat ≤ 57 ∨ c.toNat = 95 ∨ c.toNat = 45 ∨ c.toNat = 46 ∨ c.toNat = 47 ∨ c.toNat = 58) := rfl
  rw [e]
  clear e
  generalize c.toNat = n
  by_cases e1 : n = 95 ∨ n = 45 ∨ n = 46 ∨ n = 47 ∨ n = 58
  · rcases e1 with rfl | rfl | rfl | rfl | rfl
    all_goals
      go_enter Tryd.func103, Tryd.ntmps103
      go_wp2
      go_ret
      exact ⟨rfl, rfl⟩
  · have f1 : ((n : Int) == 95) = false := nbeqF (m := 95) (by omega)
    have f2 : ((n : Int) == 45) = false := nbeqF (m := 45) (by omega)
    have f3 : ((n : Int) == 46) = false := nbeqF (m := 46) (by omega)
    have f4 : ((n : Int) == 47) = false := nbeqF (m := 47) (by omega)
    have f5 : ((n : Int) == 58) = false := nbeqF (m := 58) (by omega)
    obtain ⟨S, hS⟩ : ∃ S, decide (97 ≤ n ∧ n ≤ 122) = S := ⟨_, rfl⟩
    obtain ⟨G, hG⟩ : ∃ G, decide (65 ≤ n ∧ n ≤ 90) = G := ⟨_, rfl⟩
    obtain ⟨D, hD⟩ : ∃ D, decide (48 ≤ n ∧ n ≤ 57) = D := ⟨_, rfl⟩
    have hSS := fun W => oSmall_any n W
    have hGG := fun W => oGreat_any n W
    have hDD := fun W => oDigit_any n W
    rw [hS] at hSS
    rw [hG] at hGG
    rw [hD] at hDD
    have hb : decide (97 ≤ n ∧ n ≤ 122 ∨ 65 ≤ n ∧ n ≤ 90 ∨ 48 ≤ n ∧ n ≤ 57 ∨ n = 95 ∨ n = 45 ∨ n = 46 ∨ n = 47 ∨ n = 58) = (S || G || D) := by
      rw [← hS, ← hG, ← hD, Bool.eq_iff_iff]
      simp only [Bool.or_eq_true, decide_eq_true_eq]
      omega
    rw [hb]
    have HS := Lib.hid hSS
    have HG := Lib.hid hGG
    have HD := Lib.hid hDD
    clear hSS hGG hDD hS hG hD hb e1
    cases S <;> cases G <;> cases D
    all_goals
      go_enter Tryd.func103, Tryd.ntmps103
      go_wp2_with (first
        | (go_at_call 97; refine (HS.out _).mono ?_; rintro e w2 ⟨rfl, rfl⟩)
        | (go_at_call 105; refine (HG.out _).mono ?_; rintro e w2 ⟨rfl, rfl⟩)
        | (go_at_call 98; refine (HD.out _).mono ?_; rintro e w2 ⟨rfl, rfl⟩))
      go_ret
      exact ⟨rfl, rfl⟩

set_option maxHeartbeats 1600000 in
theorem oPlain_any (s : ByteArray) (w : World) (hs : s.size ≤ maxLen) : Calls Tryd.prog 92 #[.string s] w (BoolS (plC s.data.toList) w) := by
  unfold maxLen at hs
  have hl := lenB s
  obtain ⟨J, hJ, hok, hend⟩ : ∃ J, J ≤ s.size ∧ (∀ k (h : k < s.size), k < J → plB s[k] = true) ∧ (J = s.size ∧ s.data.toList.all plB = true ∨ ∃ h : J < s.size, plB s[J] = false ∧ s.data.toList.all plB = false) := by
    by_cases hall : s.data.toList.all plB = true
    · exact ⟨s.size, Nat.le_refl _, fun k h _ => bytesAll hall k h, .inl ⟨rfl, hall⟩⟩
    · obtain ⟨j, hj, hbad, hok⟩ := bytesNot s hall
      exact ⟨j, by omega, fun k _ hk => hok k hk, .inr ⟨hj, hbad, by simpa using hall⟩⟩
  have hR0 : plC s.data.toList = (s.data.toList.all plB && decide (1 ≤ s.size) && !decide ((s.data.toList.getD 0 0).toNat = 45)) := by rw [plC, hl]
  obtain ⟨A, hA⟩ : ∃ A, s.data.toList.all plB = A := ⟨_, rfl⟩
  rw [hA] at hend hR0
  obtain ⟨R, hR⟩ : ∃ R, plC s.data.toList = R := ⟨_, rfl⟩
  rw [hR] at hR0 ⊢
  have HA := Lib.hid hok
  have HE := Lib.hid hend
  have HR := Lib.hid hR0
  clear hR hR0 hA hl hok hend
  go_enter Tryd.func92, Tryd.ntmps92
  go_wp2
  go_loop [3] (fun i => ∃ k : Nat, k ≤ J ∧ i = .int .i64 k) (fun i => s.size - (intOf i).toNat)
  case atStart => exact ⟨0, Nat.zero_le _, rfl⟩
  case round =>
    obtain ⟨k, hk, rfl⟩ := hrel
    by_cases hkl : k < s.size
    · have hpb := fun W => oPlainByte_any s[k] W
      by_cases hkJ : k = J
      · subst hkJ
        rcases HE.out with ⟨h, _⟩ | ⟨_, hbad, hR⟩
        · omega
        · obtain rfl : R = false := by rw [HR.out, hR]; rfl
          rw [hbad] at hpb
          have HP := Lib.hid hpb
          clear hpb hbad
          go_wp2_with (go_at_call 103; refine (HP.out _).mono ?_; rintro e w2 ⟨rfl, rfl⟩)
          go_ret
          exact ⟨rfl, rfl⟩
      · rw [HA.out k hkl (by omega)] at hpb
        have HP := Lib.hid hpb
        clear hpb
        go_wp2_with (go_at_call 103; refine (HP.out _).mono ?_; rintro e w2 ⟨rfl, rfl⟩)
        go_round
        case rel => exact ⟨k + 1, by omega, by go_num⟩
        case measure => simp [intOf]; omega
    · rcases HE.out with ⟨_, hR⟩ | ⟨h, _⟩
      · by_cases h0 : s.size = 0
        · obtain rfl : R = false := by rw [HR.out, h0]; simp
          have hs0 : s = .empty := by
            apply ByteArray.ext
            apply Array.toList_inj.1
            exact List.eq_nil_of_length_eq_zero (by simpa using h0)
          subst hs0
          go_wp2_with fail
          go_ret
          exact ⟨rfl, rfl⟩
        · have h0' : 0 < s.size := by omega
          have he : (s.toList == []) = false := by
            rw [ByteArray.toList_eq]
            cases hq : s.data.toList with
            | nil => exfalso; have h3 := lenB s; rw [hq] at h3; change 0 = s.size at h3; omega
            | cons a l => rfl
          have hb0 : (s.data.toList.getD 0 0) = s[0] := byteD s 0 h0'
          obtain ⟨n, hn⟩ : ∃ n, s[0].toNat = n := ⟨_, rfl⟩
          have hR2 : R = !decide (n = 45) := by rw [HR.out, hR, hb0, hn, decide_eq_true (show 1 ≤ s.size by omega), Bool.and_self, Bool.true_and]
          by_cases h45 : n = 45
          · obtain rfl : R = false := by rw [hR2, h45]; rfl
            have f1 : ((n : Int) != 45) = false := by rw [h45]; rfl
            clear hR2 hb0 h45
            go_wp2_with fail
            go_ret
            exact ⟨rfl, rfl⟩
          · obtain rfl : R = true := by rw [hR2, decide_eq_false h45]; rfl
            have f1 : ((n : Int) != 45) = true := bne_iff_ne.2 (by omega)
            clear hR2 hb0 h45
            go_wp2_with fail
            go_ret
            exact ⟨rfl, rfl⟩
      · omega
end Go.Proofs.YtolbhhokpelchaaDoor
