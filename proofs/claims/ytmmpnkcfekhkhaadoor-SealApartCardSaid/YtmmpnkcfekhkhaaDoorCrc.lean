/- The contract of the check. -/
import Derived.Test.YtmmpnkcfekhkhaaDoorRows
import Derived.Test.YtmmpnkcfekhkhaaDoorLib
import Derived.Test.YtmmpnkcfekhkhaaDoorMath
namespace Go.Proofs.YtmmpnkcfekhkhaaDoor
open Go.RowKit

set_option maxHeartbeats 800000 in
set_option maxRecDepth 100000 in
theorem next_any (c b B : Nat) (w : World) (hc : c < 4294967296) (hb : b < 256) (hB : w.heap[B]? = some (.cells #[.int .u32 c] 40 (0, 0))) :
    Calls Tryd.prog 69 #[.int .u8 b, .pointer (some ⟨B, 0, none⟩)] w fun e w' => e = .returned (.int .u32 ((onB c b ^^^ 4294967295 : Nat) : Int)) ∧ w' = w.setCell ⟨B, 0, none⟩ (.int .u32 (onB c b)) := by
  have hcell := cell_of_one hB
  have hfree := free_of_one hB
  have hx := u32_xor_nat c b hc (by omega)
  go_enter Tryd.func69, Tryd.ntmps69
  go_wp2
  go_loopw [9] (fun i wr => ∃ k : Nat, k ≤ 8 ∧ i = .int .i64 k ∧ wr = w.setCell ⟨B, 0, none⟩ (.int .u32 (stepN k (c ^^^ b) : Nat))) (fun i _ => 8 - (intOf i).toNat)
  case atStart => exact ⟨0, by omega, rfl, rfl⟩
  case round =>
    obtain ⟨k, hk, rfl, rfl⟩ := hrel
    clear hx
    have hc2 := stepN_lt k (Nat.xor_lt_two_pow (n := 32) hc (show b < 2 ^ 32 by omega))
    generalize hX : stepN k (c ^^^ b) = X at *
    have HX := Lib.hid hX
    clear hX
    have hB2 := one_setCell (u := .int .u32 (X : Nat)) hB
    have hcell2 := cell_of_one hB2
    have hfree2 := free_of_one hB2
    clear hcell hfree hB hB2
    by_cases h8 : k < 8
    · have hk1 : stepN (k + 1) (c ^^^ b) = stepC X := by rw [stepN, HX.out]
      by_cases hp : X % 2 = 1
      · rw [stepC, if_pos hp] at hk1
        have ha : bits .and .u32 (X : Int) 1 = 1 := by
          have := u32_and_nat X 1 (by omega) (by omega)
          rw [Nat.and_one_is_mod, hp] at this
          exact this
        have hxx : bits .xor .u32 ((X : Int) / 2) 3988292384 = ((X / 2 ^^^ 3988292384 : Nat) : Int) := u32_xor_nat (X / 2) 3988292384 (by omega) (by omega)
        have HK := Lib.hid hk1
        clear hk1 hp
        go_wp2
        go_roundw
        case rel => exact ⟨k + 1, by omega, by go_num, by rw [setCell2, setCell2, HK.out]⟩
        case measure => simp [intOf]; omega
      · rw [stepC, if_neg hp] at hk1
        have ha : bits .and .u32 (X : Int) 1 = 0 := by
          have := u32_and_nat X 1 (by omega) (by omega)
          rw [Nat.and_one_is_mod, show X % 2 = 0 by omega] at this
          exact this
        have HK := Lib.hid hk1
        clear hk1 hp
        go_wp2
        go_roundw
        case rel => exact ⟨k + 1, by omega, by go_num, by rw [setCell2, HK.out]; rfl⟩
        case measure => simp [intOf]; omega
    · obtain rfl : k = 8 := by omega
      have hxx : bits .xor .u32 (X : Int) 4294967295 = ((X ^^^ 4294967295 : Nat) : Int) := u32_xor_nat X 4294967295 (by omega) (by omega)
      go_wp2
      go_ret
      rw [onB, HX.out]
      exact ⟨rfl, rfl⟩

theorem newCheck_any (w : World) : Calls Tryd.prog 60 #[] w fun e w' => e = .returned (.func (.func 69) #[] #[.pointer (some ⟨w.heap.size, 0, none⟩)]) ∧ w.alloc (.cells #[.int .u32 4294967295] 40) = w' := by
  have hmf : ∀ (fn : Fn) (first cap : Array Value) (w : World), (Instr.makeFunc fn first cap).run Tryd.prog w = .ok (.func fn first cap) w := fun _ _ _ _ => rfl
  go_enter Tryd.func60, Tryd.ntmps60
  go_wp2
  go_ret
  exact ⟨rfl, rfl⟩

set_option maxHeartbeats 800000 in
set_option maxRecDepth 100000 in
theorem crc_any (s : ByteArray) (w : World) (hs : s.size ≤ maxLen) :
    Calls Tryd.prog 52 #[.string s] w fun e w' => e = .returned (.int .u32 (crcN s.data.toList : Nat)) ∧ Below w.heap.size w w' := by
  unfold maxLen at hs
  go_enter Tryd.func52, Tryd.ntmps52
  go_wp2_with (go_at_call 60; refine (newCheck_any _).mono ?_; rintro e w2 ⟨rfl, rfl⟩)
  go_loopw [4, 5] (fun c i wr => ∃ k : Nat, k ≤ s.size ∧ i = .int .i64 k ∧ c = .int .u32 (crcN (s.data.toList.take k) : Nat) ∧
      wr.heap[w.heap.size]? = some (.cells #[.int .u32 (crcS 4294967295 (s.data.toList.take k) : Nat)] 40 (0, 0)) ∧ Below w.heap.size w wr) (fun _ i _ => s.size - (intOf i).toNat)
  case atStart => exact ⟨0, by omega, rfl, by rw [List.take_zero, crcN_nil]; rfl, heap_alloc_new _ _, (Below.refl _ _).alloc (Nat.le_refl _) _⟩
  case round =>
    obtain ⟨k, hk, rfl, rfl, hB, hb⟩ := hrel
    by_cases h1 : k < s.size
    · have ht := take_snoc s.data.toList k (by simpa using h1)
      rw [show s.data.toList[k]'(by simpa using h1) = s[k] from rfl] at ht
      have hlt := crcS_lt (s.data.toList.take k) (c := 4294967295) (by omega)
      have hn := crcS_snoc 4294967295 (s.data.toList.take k) s[k]
      rw [← ht] at hn
      have hc : crcN (s.data.toList.take (k + 1)) = onB (crcS 4294967295 (s.data.toList.take k)) s[k].toNat ^^^ 4294967295 := by rw [crcN, hn]
      have HN := Lib.hid hn
      have HC := Lib.hid hc
      clear hn hc ht
      go_wp2_with (go_at_call 69; refine (next_any _ s[k].toNat _ _ hlt s[k].toNat_lt hB).mono ?_; rintro e w2 ⟨rfl, rfl⟩)
      go_roundw
      case rel => exact ⟨k + 1, by omega, by go_num, by rw [HC.out], by rw [HN.out]; exact one_setCell hB, hb.setCell (Nat.le_refl _) _⟩
      case measure => simp [intOf]; omega
    · go_wp2
      go_ret
      exact ⟨by rw [List.take_of_length_le (by simp; omega)]; rfl, hb⟩

set_option maxHeartbeats 800000 in
set_option maxRecDepth 100000 in
theorem on_any (c b : Nat) (w : World) (hc : c < 4294967296) (hb : b < 256) :
    Calls Tryd.prog 55 #[.int .u32 c, .int .u8 b] w fun e w' => e = .returned (.int .u32 (onB c b : Nat)) ∧ w = w' := by
  have hx := u32_xor_nat c b hc (by omega)
  go_enter Tryd.func55, Tryd.ntmps55
  go_wp2
  go_loop [0, 5] (fun v i => ∃ k : Nat, k ≤ 8 ∧ i = .int .i64 k ∧ v = .int .u32 (stepN k (c ^^^ b) : Nat)) (fun _ i => 8 - (intOf i).toNat)
  case atStart => exact ⟨0, by omega, rfl, rfl⟩
  case round =>
    obtain ⟨k, hk, rfl, rfl⟩ := hrel
    clear hx
    have hc2 := stepN_lt k (Nat.xor_lt_two_pow (n := 32) hc (show b < 2 ^ 32 by omega))
    generalize hX : stepN k (c ^^^ b) = X at *
    have HX := Lib.hid hX
    clear hX
    by_cases h8 : k < 8
    · have hk1 : stepN (k + 1) (c ^^^ b) = stepC X := by rw [stepN, HX.out]
      by_cases hp : X % 2 = 1
      · rw [stepC, if_pos hp] at hk1
        have hxx : bits .xor .u32 ((X : Int) / 2) 3988292384 = ((X / 2 ^^^ 3988292384 : Nat) : Int) := u32_xor_nat (X / 2) 3988292384 (by omega) (by omega)
        have HK := Lib.hid hk1
        have ha : (X : Int) % 2 = 1 := by omega
        clear hk1 hp
        go_wp2
        go_round
        case rel => exact ⟨k + 1, by omega, by go_num, by rw [HK.out]⟩
        case measure => simp [intOf]; omega
      · rw [stepC, if_neg hp] at hk1
        have HK := Lib.hid hk1
        have ha : (X : Int) % 2 = 0 := by omega
        clear hk1 hp
        go_wp2
        go_round
        case rel => exact ⟨k + 1, by omega, by go_num, by rw [HK.out]; rfl⟩
        case measure => simp [intOf]; omega
    · obtain rfl : k = 8 := by omega
      go_wp2
      go_ret
      rw [onB, HX.out]
      exact ⟨rfl, rfl⟩

theorem sub_ones {c : Nat} (h : c < 4294967296) : 4294967295 - c = c ^^^ 4294967295 := by
  apply Nat.eq_of_testBit_eq
  intro i
  rw [show 4294967295 - c = 2 ^ 32 - (c + 1) by omega, Nat.testBit_two_pow_sub_succ (by omega), Nat.testBit_xor, show 4294967295 = 2 ^ 32 - 1 by omega, Nat.testBit_two_pow_sub_one]
  by_cases hi : i < 32
  · simp [hi]
  · simp [hi, Nat.testBit_lt_two_pow (x := c) (i := i) (by have := Nat.pow_le_pow_right (n := 2) (by omega) (show 32 ≤ i by omega); omega)]

set_option maxHeartbeats 800000 in
set_option maxRecDepth 100000 in
theorem rcrc_any (s : ByteArray) (w : World) (hs : s.size ≤ maxLen) :
    Calls Tryd.prog 42 #[.string s] w fun e w' => e = .returned (.int .u32 (crcN s.data.toList : Nat)) ∧ w = w' := by
  unfold maxLen at hs
  go_enter Tryd.func42, Tryd.ntmps42
  go_wp2
  go_loop [3, 4] (fun c i => ∃ k : Nat, k ≤ s.size ∧ i = .int .i64 k ∧ c = .int .u32 (crcS 4294967295 (s.data.toList.take k) : Nat)) (fun _ i => s.size - (intOf i).toNat)
  case atStart => exact ⟨0, by omega, rfl, rfl⟩
  case round =>
    obtain ⟨k, hk, rfl, rfl⟩ := hrel
    have hlt := crcS_lt (s.data.toList.take k) (c := 4294967295) (by omega)
    by_cases h1 : k < s.size
    · have ht := take_snoc s.data.toList k (by simpa using h1)
      rw [show s.data.toList[k]'(by simpa using h1) = s[k] from rfl] at ht
      have hn := crcS_snoc 4294967295 (s.data.toList.take k) s[k]
      rw [← ht] at hn
      have HN := Lib.hid hn
      clear hn ht
      go_wp2_with (go_at_call 55; refine (on_any _ s[k].toNat _ hlt s[k].toNat_lt).mono ?_; rintro e w2 ⟨rfl, rfl⟩)
      go_round
      case rel => exact ⟨k + 1, by omega, by go_num, by rw [HN.out]⟩
      case measure => simp [intOf]; omega
    · have hf : s.data.toList.take k = s.data.toList := List.take_of_length_le (by simp; omega)
      rw [hf] at hlt ⊢
      have hsub := sub_ones hlt
      have e1 : ((crcN s.data.toList : Nat) : Int) = 4294967295 - (crcS 4294967295 s.data.toList : Nat) := by rw [crcN, ← hsub]; omega
      have HE := Lib.hid e1
      clear hsub e1
      go_wp2
      go_ret
      rw [HE.out]
      exact ⟨rfl, rfl⟩
end Go.Proofs.YtmmpnkcfekhkhaaDoor
