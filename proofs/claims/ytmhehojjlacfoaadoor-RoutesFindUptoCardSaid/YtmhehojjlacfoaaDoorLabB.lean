/- The contracts of the document's own Name, Value, Less of layer 3. -/
import Derived.Test.YtmhehojjlacfoaaDoorLabB0
namespace Go.Proofs.YtmhehojjlacfoaaDoor
open Go.RowKit

set_option maxHeartbeats 1600000 in
theorem rName_any (s : ByteArray) (w : World) (hs : s.size ≤ maxLen) : Calls Tryd.prog 30 #[.string s] w (Bool1 (nameC s.data.toList) w) := by
  unfold maxLen at hs
  by_cases hall : ∀ i (h : i < s.size), okn i s[i] = true
  · have HA := Lib.hid hall
    have hR : nameC s.data.toList = decide (1 ≤ s.size ∧ s.size ≤ 64) := by
      rw [Bool.eq_iff_iff, nameC_iff, decide_eq_true_iff]
      exact ⟨fun h => h.1, fun h => ⟨h, hall⟩⟩
    rw [hR]
    clear hR hall
    go_enter Tryd.func30, Tryd.ntmps30
    go_wp2
    go_loop [3, 4, 5] (fun i _ _ => ∃ k : Nat, k ≤ s.size ∧ i = .int .i64 k) (fun i _ _ => s.size - (intOf i).toNat)
    case atStart => exact ⟨0, Nat.zero_le _, rfl⟩
    case round =>
      obtain ⟨k, hk, rfl⟩ := hrel
      by_cases hkl : k < s.size
      · have hw := (okn_iff _ _).1 (HA.out k hkl)
        by_cases t1 : 97 ≤ s[k].toNat <;> by_cases t2 : s[k].toNat ≤ 122 <;> by_cases t3 : 65 ≤ s[k].toNat <;> by_cases t4 : s[k].toNat ≤ 90 <;> by_cases t5 : s[k].toNat = 95 <;> by_cases t6 : s[k].toNat < 48 <;> by_cases t7 : 57 < s[k].toNat <;> by_cases t8 : k = 0 <;> (try omega)
        all_goals
          first | (have t5b : ((s[k].toNat : Int) == 95) = true := by (rw [beq_iff_eq]; omega)) | (have t5b : ((s[k].toNat : Int) == 95) = false := by (rw [beq_eq_false_iff_ne]; omega))
          first | (have t4b : decide ((s[k].toNat : Int) ≤ 90) = true := by (rw [decide_eq_true_iff]; omega)) | (have t4b : decide ((s[k].toNat : Int) ≤ 90) = false := by (rw [decide_eq_false_iff_not]; omega))
          first | (have t2b : decide ((s[k].toNat : Int) ≤ 122) = true := by (rw [decide_eq_true_iff]; omega)) | (have t2b : decide ((s[k].toNat : Int) ≤ 122) = false := by (rw [decide_eq_false_iff_not]; omega))
          first | (have t8b : ((k : Int) == 0) = true := by (rw [beq_iff_eq]; omega)) | (have t8b : ((k : Int) == 0) = false := by (rw [beq_eq_false_iff_ne]; omega))
          clear hw t5 t8
          go_wp2
          go_round
          case rel => exact ⟨k + 1, by omega, by go_num⟩
          case measure => simp [intOf]; omega
      · by_cases t1 : 1 ≤ s.size <;> by_cases t2 : s.size ≤ 64 <;> (try omega)
        all_goals
          go_wp2
          go_ret
          first | exact ⟨rfl, rfl⟩ | (refine ⟨?_, rfl⟩; simp; omega)
  · obtain ⟨j, hj, hbad, hok⟩ := idx_not s okn hall
    have hR : nameC s.data.toList = false := by
      rw [← Bool.not_eq_true, nameC_iff]
      exact fun h => hall h.2
    have HA := Lib.hid hok
    have HB := Lib.hid hbad
    rw [hR]
    clear hR hall hok hbad
    go_enter Tryd.func30, Tryd.ntmps30
    go_wp2
    go_loop [3, 4, 5] (fun i _ _ => ∃ k : Nat, k ≤ j ∧ i = .int .i64 k) (fun i _ _ => s.size - (intOf i).toNat)
    case atStart => exact ⟨0, Nat.zero_le _, rfl⟩
    case round =>
      obtain ⟨k, hk, rfl⟩ := hrel
      have hks : k < s.size := by omega
      by_cases hkl : k = j
      · subst hkl
        have hw : ¬ okn k s[k] = true := by rw [HB.out]; simp
        rw [okn_iff] at hw
        by_cases t1 : 97 ≤ s[k].toNat <;> by_cases t2 : s[k].toNat ≤ 122 <;> by_cases t3 : 65 ≤ s[k].toNat <;> by_cases t4 : s[k].toNat ≤ 90 <;> by_cases t5 : s[k].toNat = 95 <;> by_cases t6 : s[k].toNat < 48 <;> by_cases t7 : 57 < s[k].toNat <;> by_cases t8 : k = 0 <;> (try omega)
        all_goals
          first | (have t5b : ((s[k].toNat : Int) == 95) = true := by (rw [beq_iff_eq]; omega)) | (have t5b : ((s[k].toNat : Int) == 95) = false := by (rw [beq_eq_false_iff_ne]; omega))
          first | (have t4b : decide ((s[k].toNat : Int) ≤ 90) = true := by (rw [decide_eq_true_iff]; omega)) | (have t4b : decide ((s[k].toNat : Int) ≤ 90) = false := by (rw [decide_eq_false_iff_not]; omega))
          first | (have t2b : decide ((s[k].toNat : Int) ≤ 122) = true := by (rw [decide_eq_true_iff]; omega)) | (have t2b : decide ((s[k].toNat : Int) ≤ 122) = false := by (rw [decide_eq_false_iff_not]; omega))
          first | (have t8b : ((k : Int) == 0) = true := by (rw [beq_iff_eq]; omega)) | (have t8b : ((k : Int) == 0) = false := by (rw [beq_eq_false_iff_ne]; omega))
          clear hw t5 t8
          go_wp2
          go_ret
          exact ⟨rfl, rfl⟩
      · have hw := (okn_iff _ _).1 (HA.out k (by omega))
        by_cases t1 : 97 ≤ s[k].toNat <;> by_cases t2 : s[k].toNat ≤ 122 <;> by_cases t3 : 65 ≤ s[k].toNat <;> by_cases t4 : s[k].toNat ≤ 90 <;> by_cases t5 : s[k].toNat = 95 <;> by_cases t6 : s[k].toNat < 48 <;> by_cases t7 : 57 < s[k].toNat <;> by_cases t8 : k = 0 <;> (try omega)
        all_goals
          first | (have t5b : ((s[k].toNat : Int) == 95) = true := by (rw [beq_iff_eq]; omega)) | (have t5b : ((s[k].toNat : Int) == 95) = false := by (rw [beq_eq_false_iff_ne]; omega))
          first | (have t4b : decide ((s[k].toNat : Int) ≤ 90) = true := by (rw [decide_eq_true_iff]; omega)) | (have t4b : decide ((s[k].toNat : Int) ≤ 90) = false := by (rw [decide_eq_false_iff_not]; omega))
          first | (have t2b : decide ((s[k].toNat : Int) ≤ 122) = true := by (rw [decide_eq_true_iff]; omega)) | (have t2b : decide ((s[k].toNat : Int) ≤ 122) = false := by (rw [decide_eq_false_iff_not]; omega))
          first | (have t8b : ((k : Int) == 0) = true := by (rw [beq_iff_eq]; omega)) | (have t8b : ((k : Int) == 0) = false := by (rw [beq_eq_false_iff_ne]; omega))
          clear hw t5 t8
          go_wp2
          go_round
          case rel => exact ⟨k + 1, by omega, by go_num⟩
          case measure => simp [intOf]; omega

set_option maxHeartbeats 1600000 in
theorem rValue_any (s : ByteArray) (w : World) (hs : s.size ≤ maxLen) : Calls Tryd.prog 31 #[.string s] w (Bool1 (valC s.data.toList) w) := by
  unfold maxLen at hs
  have hl : s.data.toList.length = s.size := by simp
  by_cases hall : s.data.toList.all visC = true
  · have HA := Lib.hid (vis_at hall)
    have hR : valC s.data.toList = decide (1 ≤ s.size ∧ s.size ≤ 64) := by
      unfold valC
      rw [hall, hl, Bool.and_true, ← Bool.decide_and]
    rw [hR]
    clear hR hall hl
    go_enter Tryd.func31, Tryd.ntmps31
    go_wp2
    go_loop [3] (fun i => ∃ k : Nat, k ≤ s.size ∧ i = .int .i64 k) (fun i => s.size - (intOf i).toNat)
    case atStart => exact ⟨0, Nat.zero_le _, rfl⟩
    case round =>
      obtain ⟨k, hk, rfl⟩ := hrel
      by_cases hkl : k < s.size
      · obtain ⟨hw1, hw2⟩ := HA.out k hkl
        go_wp2
        go_round
        case rel => exact ⟨k + 1, by omega, by go_num⟩
        case measure => simp [intOf]; omega
      · by_cases t1 : 1 ≤ s.size <;> by_cases t2 : s.size ≤ 64 <;> (try omega)
        all_goals
          go_wp2
          go_ret
          first | exact ⟨rfl, rfl⟩ | (refine ⟨?_, rfl⟩; simp; omega)
  · obtain ⟨j, hj, hbad, hok⟩ := all_not s hall
    have hR : valC s.data.toList = false := by unfold valC; simp only [Bool.not_eq_true] at hall; rw [hall]; simp
    have HA := Lib.hid hok
    have HB := Lib.hid hbad
    rw [hR]
    clear hR hl hall hok hbad
    go_enter Tryd.func31, Tryd.ntmps31
    go_wp2
    go_loop [3] (fun i => ∃ k : Nat, k ≤ j ∧ i = .int .i64 k) (fun i => s.size - (intOf i).toNat)
    case atStart => exact ⟨0, Nat.zero_le _, rfl⟩
    case round =>
      obtain ⟨k, hk, rfl⟩ := hrel
      by_cases hkl : k = j
      · subst hkl
        have hb := HB.out
        simp only [visC, decide_eq_false_iff_not] at hb
        by_cases h32 : 32 ≤ s[k].toNat
        · have h126 : 126 < s[k].toNat := by omega
          clear hb
          go_wp2
          go_ret
          exact ⟨rfl, rfl⟩
        · clear hb
          go_wp2
          go_ret
          exact ⟨rfl, rfl⟩
      · have hw := HA.out k (by omega)
        simp only [visC, decide_eq_true_eq] at hw
        obtain ⟨hw1, hw2⟩ := hw
        go_wp2
        go_round
        case rel => exact ⟨k + 1, by omega, by go_num⟩
        case measure => simp [intOf]; omega

set_option maxHeartbeats 1600000 in
theorem rLess_any (a b : ByteArray) (w : World) (ha : a.size ≤ maxLen) (_hb : b.size ≤ maxLen) : Calls Tryd.prog 32 #[.string a, .string b] w (Bool2 (lessB a.data.toList b.data.toList) w) := by
  unfold maxLen at ha _hb
  have la : a.data.toList.length = a.size := by simp
  have lb : b.data.toList.length = b.size := by simp
  have LA := Lib.hid la
  have LB := Lib.hid lb
  clear la lb
  go_enter Tryd.func32, Tryd.ntmps32
  go_wp2
  go_loopw [5] (fun i wr => ∃ k n : Nat, k ≤ a.size ∧ k ≤ b.size ∧ i = .int .i64 k ∧ a.data.toList.take k = b.data.toList.take k ∧ wr = w.drewN n) (fun i _ => a.size - (intOf i).toNat)
  case atStart => exact ⟨0, 0, Nat.zero_le _, Nat.zero_le _, rfl, rfl, rfl⟩
  case round =>
    obtain ⟨k, n, hk, hk2, rfl, ht, rfl⟩ := hrel
    have hd := lessB_drop k _ _ (by rw [LA.out]; exact hk) (by rw [LB.out]; exact hk2) ht
    have HT := Lib.hid ht
    clear ht
    by_cases hka : k < a.size
    · by_cases hkb : k < b.size
      · rw [drop_byte a k hka, drop_byte b k hkb] at hd
        by_cases hq : a[k] = b[k]
        · have hq1 : ((a[k].toNat : Int) == (b[k].toNat : Int)) = true := by rw [beq_iff_eq, hq]
          have hq2 : ((a[k].toNat : Int) != (b[k].toNat : Int)) = false := by rw [bne, hq1]; rfl
          have hts : a.data.toList.take (k + 1) = b.data.toList.take (k + 1) := by rw [take_byte a k hka, take_byte b k hkb, HT.out, hq]
          have HTS := Lib.hid hts
          clear hts hq hd
          go_wp2_with fail
          go_quiet (fail)
          go_wp2
          go_roundw
          case rel => exact ⟨k + 1, _, by omega, by omega, by go_num, HTS.out, rfl⟩
          case measure => simp [intOf]; omega
        · have hqn : a[k].toNat ≠ b[k].toNat := fun e => hq (UInt8.toNat_inj.1 e)
          have hq1 : ((a[k].toNat : Int) == (b[k].toNat : Int)) = false := by rw [beq_eq_false_iff_ne]; omega
          have hq2 : ((a[k].toNat : Int) != (b[k].toNat : Int)) = true := by rw [bne, hq1]; rfl
          have hd2 : lessB a.data.toList b.data.toList = decide (a[k].toNat < b[k].toNat) := by
            rw [hd]
            have : (a[k] == b[k]) = false := by rw [beq_eq_false_iff_ne]; exact hq
            simp only [lessB, this, Bool.false_and, Bool.or_false]
            exact decide_eq_decide.2 (by rw [UInt8.lt_iff_toNat_lt])
          have HD := Lib.hid hd2
          clear hq hqn hd hd2
          go_wp2_with fail
          go_quiet (fail)
          go_wp2_with fail
          go_quiet (fail)
          go_wp2
          go_ret
          exact bool2_mk HD.out (by first | exact ⟨_, rfl⟩ | (simp only [World.drewN_drewN]; exact ⟨_, rfl⟩))
      · have hd2 : lessB a.data.toList b.data.toList = decide (a.size < b.size) := by
          rw [hd, show b.data.toList.drop k = [] from List.drop_eq_nil_of_le (by rw [LB.out]; omega)]
          have : ¬ a.size < b.size := by omega
          simp only [this, decide_false]
          cases a.data.toList.drop k <;> rfl
        have HD := Lib.hid hd2
        clear hd hd2
        go_wp2
        go_ret
        exact bool2_mk HD.out (by first | exact ⟨_, rfl⟩ | (simp only [World.drewN_drewN]; exact ⟨_, rfl⟩))
    · have hd2 : lessB a.data.toList b.data.toList = decide (a.size < b.size) := by
        rw [hd, show a.data.toList.drop k = [] from List.drop_eq_nil_of_le (by rw [LA.out]; omega)]
        by_cases hkb : k < b.size
        · rw [drop_byte b k hkb]
          have : a.size < b.size := by omega
          simp [lessB]; omega
        · rw [show b.data.toList.drop k = [] from List.drop_eq_nil_of_le (by rw [LB.out]; omega)]
          have : ¬ a.size < b.size := by omega
          simp [lessB]; omega
      have HD := Lib.hid hd2
      clear hd hd2
      go_wp2
      go_ret
      exact bool2_mk HD.out (by first | exact ⟨_, rfl⟩ | (simp only [World.drewN_drewN]; exact ⟨_, rfl⟩))
end Go.Proofs.YtmhehojjlacfoaaDoor
