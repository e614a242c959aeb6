/- The contract of the document's own Blank of layer 6. -/
import Derived.Test.YtekcmgajjbdmgabDoorPrsI
import Derived.Test.YtekcmgajjbdmgabDoorBlkB
namespace Go.Proofs.YtekcmgajjbdmgabDoor
open Go.RowKit

theorem blankB_yes {c : UInt8} (h : blankB c = true) : c.toNat = 32 ∨ c.toNat = 9 := by
  have : c = 32 ∨ c = 9 := by simpa [blankB] using h
  rcases this with rfl | rfl
  · exact .inl rfl
  · exact .inr rfl
theorem blankB_no {c : UInt8} (h : blankB c = false) : c.toNat ≠ 32 ∧ c.toNat ≠ 9 := by
  have : c ≠ 32 ∧ c ≠ 9 := by simpa [blankB] using h
  exact ⟨fun e => this.1 (UInt8.toNat_inj.1 e), fun e => this.2 (UInt8.toNat_inj.1 e)⟩
theorem byteEq (c k : UInt8) : (c == k) = decide (c.toNat = k.toNat) := by
  rw [Bool.eq_iff_iff, beq_iff_eq, decide_eq_true_iff]
  exact ⟨fun e => by rw [e], fun e => UInt8.toNat_inj.1 e⟩
theorem blank_at : ∀ l : Bs, (∀ i (h : i < l.length), blankB l[i] = true) ∧ blankL l = true ∨ ∃ j, ∃ h : j < l.length, blankB l[j] = false ∧ (∀ i (hi : i < j), blankB (l[i]'(by omega)) = true) ∧ blankL l = (l[j] == 35 || l[j] == 59)
  | [] => .inl ⟨fun i h => by simp at h, rfl⟩
  | c :: l => by
    cases hc : blankB c with
    | true =>
      have e : blankL (c :: l) = blankL l := by unfold blankL; rw [List.dropWhile_cons_of_pos hc]
      rcases blank_at l with ⟨h1, h2⟩ | ⟨j, hj, h1, h2, h3⟩
      · refine .inl ⟨fun i h => ?_, by rw [e, h2]⟩
        cases i with
        | zero => exact hc
        | succ i => exact h1 i (by simpa using h)
      · refine .inr ⟨j + 1, by simpa using hj, h1, fun i hi => ?_, by rw [e, h3]; rfl⟩
        cases i with
        | zero => exact hc
        | succ i => exact h2 i (by omega)
    | false =>
      refine .inr ⟨0, by simp, hc, fun i hi => absurd hi (Nat.not_lt_zero _), ?_⟩
      unfold blankL
      rw [List.dropWhile_cons_of_neg (by rw [hc]; simp)]
      rfl

theorem blank_atB (s : ByteArray) : (∀ k (h : k < s.size), s[k].toNat = 32 ∨ s[k].toNat = 9) ∧ blankL s.data.toList = true ∨ ∃ j, ∃ hj : j < s.size, (s[j].toNat ≠ 32 ∧ s[j].toNat ≠ 9) ∧ (∀ k (h : k < j), (s[k]'(Nat.lt_trans h hj)).toNat = 32 ∨ (s[k]'(Nat.lt_trans h hj)).toNat = 9) ∧ blankL s.data.toList = (decide (s[j].toNat = 35) || decide (s[j].toNat = 59)) := by
  have hl := lenB s
  rcases blank_at s.data.toList with ⟨h1, h2⟩ | ⟨j, hj, h1, h2, h3⟩
  · exact .inl ⟨fun k h => blankB_yes (h1 k (by rw [hl]; exact h)), h2⟩
  · exact .inr ⟨j, by rw [← hl]; exact hj, blankB_no h1, fun k h => blankB_yes (h2 k h), by rw [h3, byteEq, byteEq]; rfl⟩

set_option maxHeartbeats 1600000 in
theorem rBlank_any (s : ByteArray) (w : World) (hs : s.size ≤ maxLen) : Calls Tryd.prog 27 #[.string s] w (BoolS (blankL s.data.toList) w) := by
  unfold maxLen at hs
  rcases blank_atB s with ⟨h1, h2⟩ | ⟨j, hjs, h1, h2, h3⟩
  · have HA := Lib.hid h1
    rw [h2]
    clear h1 h2
    go_enter Tryd.func27, Tryd.ntmps27
    go_wp2
    go_loop [3, 4] (fun i _ => ∃ k : Nat, k ≤ s.size ∧ i = .int .i64 k) (fun i _ => s.size - (intOf i).toNat)
    case atStart => exact ⟨0, Nat.zero_le _, rfl⟩
    case round =>
      obtain ⟨k, hk, rfl⟩ := hrel
      by_cases hkl : k < s.size
      · have hw := HA.out k hkl
        obtain ⟨n, hn⟩ : ∃ n, s[k].toNat = n := ⟨_, rfl⟩
        rw [hn] at hw
        rcases hw with h | h
        · have f1 : ((n : Int) != 32) = false := by rw [h]; rfl
          clear h
          go_wp2
          go_round
          case rel => exact ⟨k + 1, by omega, by go_num⟩
          case measure => simp [intOf]; omega
        · have f1 : ((n : Int) != 32) = true := by rw [h]; rfl
          have f2 : ((n : Int) != 9) = false := by rw [h]; rfl
          clear h
          go_wp2
          go_round
          case rel => exact ⟨k + 1, by omega, by go_num⟩
          case measure => simp [intOf]; omega
      · go_wp2
        go_ret
        exact ⟨rfl, rfl⟩
  · have HA := Lib.hid h2
    have HB := Lib.hid h1
    rw [h3]
    clear h1 h2 h3
    go_enter Tryd.func27, Tryd.ntmps27
    go_wp2
    go_loop [3, 4] (fun i _ => ∃ k : Nat, k ≤ j ∧ i = .int .i64 k) (fun i _ => s.size - (intOf i).toNat)
    case atStart => exact ⟨0, Nat.zero_le _, rfl⟩
    case round =>
      obtain ⟨k, hk, rfl⟩ := hrel
      by_cases hkl : k = j
      · subst hkl
        have hb := HB.out
        obtain ⟨n, hn⟩ : ∃ n, s[k].toNat = n := ⟨_, rfl⟩
        rw [hn] at hb
        have f1 : ((n : Int) != 32) = true := by rw [bne_iff_ne]; omega
        have f2 : ((n : Int) != 9) = true := by rw [bne_iff_ne]; omega
        clear hb
        by_cases a1 : n = 35
        · have f3 : ((n : Int) == 35) = true := by rw [a1]; rfl
          have f4 : Hid ((decide (n = 35) || decide (n = 59)) = true) := Lib.hid (by simp [a1])
          clear a1
          go_wp2
          go_ret
          exact ⟨by first | (rw [f4.out]; done) | (rw [f4.out]; rfl), rfl⟩
        · have f3 : ((n : Int) == 35) = false := by rw [beq_eq_false_iff_ne]; omega
          by_cases a2 : n = 59
          · have f5 : ((n : Int) == 59) = true := by rw [a2]; rfl
            have f4 : Hid ((decide (n = 35) || decide (n = 59)) = true) := Lib.hid (by simp [a2])
            clear a1 a2
            go_wp2
            go_ret
            exact ⟨by first | (rw [f4.out]; done) | (rw [f4.out]; rfl), rfl⟩
          · have f5 : ((n : Int) == 59) = false := by rw [beq_eq_false_iff_ne]; omega
            have f4 : Hid ((decide (n = 35) || decide (n = 59)) = false) := Lib.hid (by simp [a1, a2])
            clear a1 a2
            go_wp2
            go_ret
            exact ⟨by first | (rw [f4.out]; done) | (rw [f4.out]; rfl), rfl⟩
      · have hkj : k < j := by omega
        have hks : k < s.size := by omega
        have hw := HA.out k hkj
        obtain ⟨n, hn⟩ : ∃ n, s[k].toNat = n := ⟨_, rfl⟩
        rw [hn] at hw
        rcases hw with h | h
        · have f1 : ((n : Int) != 32) = false := by rw [h]; rfl
          clear h
          go_wp2
          go_round
          case rel => exact ⟨k + 1, by omega, by go_num⟩
          case measure => simp [intOf]; omega
        · have f1 : ((n : Int) != 32) = true := by rw [h]; rfl
          have f2 : ((n : Int) != 9) = false := by rw [h]; rfl
          clear h
          go_wp2
          go_round
          case rel => exact ⟨k + 1, by omega, by go_num⟩
          case measure => simp [intOf]; omega
end Go.Proofs.YtekcmgajjbdmgabDoor
