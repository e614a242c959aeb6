/- The contracts of package seal's small functions on words. -/
import Derived.Test.YtmmpnkcfekhkhaaDoorRows
import Derived.Test.YtmmpnkcfekhkhaaDoorLib2
import Derived.Test.YtmmpnkcfekhkhaaDoorSha
import Derived.BigQuiet
import Derived.Deep.QuietTactic
namespace Go.Proofs.YtmmpnkcfekhkhaaDoor
open Go.RowKit

theorem u64_neg31 {n : Nat} (h1 : 1 ≤ n) (hn : n ≤ 31) : bits .and .u64 (IntKind.u64.wrap (-(n : Int))) 31 = ((32 - n : Nat) : Int) := by
  have e : IntKind.u64.wrap (-(n : Int)) = ((18446744073709551616 - n : Nat) : Int) := by
    simp only [IntKind.wrap, IntKind.bits, IntKind.signed]; simp; omega
  rw [e]
  have := u64_and_nat (18446744073709551616 - n) 31 (by omega) (by omega)
  rw [show (31 : Nat) = 2 ^ 5 - 1 by rfl, Nat.and_two_pow_sub_one_eq_mod, show (18446744073709551616 - n) % 2 ^ 5 = 32 - n by omega] at this
  exact this

theorem rot_any (x n : Nat) (w : World) (hx : x < 4294967296) (h1 : 1 ≤ n) (hn : n ≤ 31) :
    Calls Tryd.prog 72 #[.int .u32 x, .int .i64 (-(n : Int))] w fun e w' => e = .returned (.int .u32 (rotN x n : Nat)) ∧ w = w' := by
  have hb := u64_neg31 h1 hn
  have hr := rotN_or (n := n) (x := x) (by omega) hx
  obtain ⟨m, hm⟩ : ∃ m, m = 32 - n := ⟨_, rfl⟩
  rw [← hm] at hb hr
  have hm1 : 1 ≤ m := by omega
  have hm2 : m ≤ 31 := by omega
  have hnm : n = 32 - m := by omega
  have HR := Lib.hid hr
  have HN := Lib.hid hnm
  clear hr hm hnm
  go_enter Tryd.func72, Tryd.ntmps72
  go_wp2
  go_ret
  refine ⟨?_, rfl⟩
  show Ending.returned (.int .u32 (bits .or .u32 ((x : Int) * 2 ^ m % 4294967296) ((x : Int) / 2 ^ (32 - m)))) = _
  have e1 : (x : Int) * 2 ^ m % 4294967296 = ((x * 2 ^ m % 4294967296 : Nat) : Int) := by rw [Int.natCast_emod, Int.natCast_mul, Int.natCast_pow]; rfl
  have e2 : (x : Int) / 2 ^ (32 - m) = ((x / 2 ^ (32 - m) : Nat) : Int) := by rw [Int.natCast_ediv, Int.natCast_pow]; rfl
  have h2 : x / 2 ^ (32 - m) < 4294967296 := Nat.lt_of_le_of_lt (Nat.div_le_self _ _) hx
  have h1 := HR.out
  rw [HN.out] at h1
  rw [e1, e2, u32_or_nat _ _ (Nat.mod_lt _ (by omega)) h2, h1, ← HN.out]

theorem turn_any (x n : Nat) (k : Int) (w : World) (hk : k = n) (hx : x < 4294967296) (h1 : 1 ≤ n) (hn : n ≤ 31) :
    Calls Tryd.prog 68 #[.int .u32 x, .int .i64 k] w fun e w' => e = .returned (.int .u32 (rotN x n : Nat)) ∧ w = w' := by
  subst hk
  go_enter Tryd.func68, Tryd.ntmps68
  go_wp2_with ((with_reducible refine (rot_any x n _ hx h1 hn).mono ?_); rintro e w2 ⟨rfl, rfl⟩)
  go_ret
  exact ⟨rfl, rfl⟩

theorem small0_any (x : Nat) (w : World) (hx : x < 4294967296) :
    Calls Tryd.prog 67 #[.int .u32 x] w fun e w' => e = .returned (.int .u32 (sg0 x : Nat)) ∧ w = w' := by
  have ha := rotN_lt (n := 7) (by omega) hx
  have hb := rotN_lt (n := 18) (by omega) hx
  go_enter Tryd.func67, Tryd.ntmps67
  go_wp2_with (first | ((with_reducible refine (turn_any x 7 7 _ rfl hx (by omega) (by omega)).mono ?_); rintro e w2 ⟨rfl, rfl⟩) | ((with_reducible refine (turn_any x 18 18 _ rfl hx (by omega) (by omega)).mono ?_); rintro e w2 ⟨rfl, rfl⟩))
  go_ret
  refine ⟨?_, rfl⟩
  show Ending.returned (.int .u32 (bits .xor .u32 (bits .xor .u32 (rotN x 7 : Nat) (rotN x 18 : Nat)) ((x : Int) / 8))) = _
  rw [u32_xor_nat _ _ ha hb, show (x : Int) / 8 = ((x / 8 : Nat) : Int) from rfl, u32_xor_nat _ _ (xor_lt ha hb) (by omega)]
  rfl

theorem small1_any (x : Nat) (w : World) (hx : x < 4294967296) :
    Calls Tryd.prog 66 #[.int .u32 x] w fun e w' => e = .returned (.int .u32 (sg1 x : Nat)) ∧ w = w' := by
  have ha := rotN_lt (n := 17) (by omega) hx
  have hb := rotN_lt (n := 19) (by omega) hx
  go_enter Tryd.func66, Tryd.ntmps66
  go_wp2_with (first | ((with_reducible refine (turn_any x 17 17 _ rfl hx (by omega) (by omega)).mono ?_); rintro e w2 ⟨rfl, rfl⟩) | ((with_reducible refine (turn_any x 19 19 _ rfl hx (by omega) (by omega)).mono ?_); rintro e w2 ⟨rfl, rfl⟩))
  go_ret
  refine ⟨?_, rfl⟩
  show Ending.returned (.int .u32 (bits .xor .u32 (bits .xor .u32 (rotN x 17 : Nat) (rotN x 19 : Nat)) ((x : Int) / 1024))) = _
  rw [u32_xor_nat _ _ ha hb, show (x : Int) / 1024 = ((x / 1024 : Nat) : Int) from rfl, u32_xor_nat _ _ (xor_lt ha hb) (by omega)]
  rfl

theorem great0_any (x : Nat) (w : World) (hx : x < 4294967296) :
    Calls Tryd.prog 59 #[.int .u32 x] w fun e w' => e = .returned (.int .u32 (bg0 x : Nat)) ∧ w = w' := by
  have ha := rotN_lt (n := 2) (by omega) hx
  have hb := rotN_lt (n := 13) (by omega) hx
  have hc := rotN_lt (n := 22) (by omega) hx
  go_enter Tryd.func59, Tryd.ntmps59
  go_wp2_with (first | ((with_reducible refine (turn_any x 2 2 _ rfl hx (by omega) (by omega)).mono ?_); rintro e w2 ⟨rfl, rfl⟩) | ((with_reducible refine (turn_any x 13 13 _ rfl hx (by omega) (by omega)).mono ?_); rintro e w2 ⟨rfl, rfl⟩) | ((with_reducible refine (turn_any x 22 22 _ rfl hx (by omega) (by omega)).mono ?_); rintro e w2 ⟨rfl, rfl⟩))
  go_ret
  refine ⟨?_, rfl⟩
  show Ending.returned (.int .u32 (bits .xor .u32 (bits .xor .u32 (rotN x 2 : Nat) (rotN x 13 : Nat)) (rotN x 22 : Nat))) = _
  rw [u32_xor_nat _ _ ha hb, u32_xor_nat _ _ (xor_lt ha hb) hc]
  rfl

theorem great1_any (x : Nat) (w : World) (hx : x < 4294967296) :
    Calls Tryd.prog 58 #[.int .u32 x] w fun e w' => e = .returned (.int .u32 (bg1 x : Nat)) ∧ w = w' := by
  have ha := rotN_lt (n := 6) (by omega) hx
  have hb := rotN_lt (n := 11) (by omega) hx
  have hc := rotN_lt (n := 25) (by omega) hx
  go_enter Tryd.func58, Tryd.ntmps58
  go_wp2_with (first | ((with_reducible refine (turn_any x 6 6 _ rfl hx (by omega) (by omega)).mono ?_); rintro e w2 ⟨rfl, rfl⟩) | ((with_reducible refine (turn_any x 11 11 _ rfl hx (by omega) (by omega)).mono ?_); rintro e w2 ⟨rfl, rfl⟩) | ((with_reducible refine (turn_any x 25 25 _ rfl hx (by omega) (by omega)).mono ?_); rintro e w2 ⟨rfl, rfl⟩))
  go_ret
  refine ⟨?_, rfl⟩
  show Ending.returned (.int .u32 (bits .xor .u32 (bits .xor .u32 (rotN x 6 : Nat) (rotN x 11 : Nat)) (rotN x 25 : Nat))) = _
  rw [u32_xor_nat _ _ ha hb, u32_xor_nat _ _ (xor_lt ha hb) hc]
  rfl

theorem u32_mul256 {x : Nat} {b : Nat} (hb : b < 256) (hx : x < 16777216) : bits .or .u32 ((x : Int) * 256) (b : Int) = ((x * 256 + b : Nat) : Int) := by
  rw [show (x : Int) * 256 = ((x * 256 : Nat) : Int) from rfl, u32_or_nat _ _ (by omega) (by omega), Nat.mul_comm x 256, show (256 : Nat) = 2 ^ 8 by rfl, Nat.two_pow_add_eq_or_of_lt (by omega)]

theorem getD_byte (s : ByteArray) (k : Nat) (h : k < s.size) : s.data.toList.getD k 0 = s[k] := by
  rw [List.getD_eq_getElem?_getD, List.getElem?_eq_getElem (by simpa using h)]; rfl

theorem readWord_any (s : ByteArray) (w : World) (h4 : 4 ≤ s.size) (hs : s.size ≤ maxLen) :
    Calls Tryd.prog 65 #[.string s] w fun e w' => e = .returned (.int .u32 (wordN s.data.toList 0 : Nat)) ∧ w = w' := by
  unfold maxLen at hs
  go_enter Tryd.func65, Tryd.ntmps65
  go_wp2
  go_loop [3, 5] (fun x i => ∃ k : Nat, k ≤ 4 ∧ i = .int .i64 k ∧ x = .int .u32 (accN s.data.toList 0 k : Nat)) (fun _ i => 4 - (intOf i).toNat)
  case atStart => exact ⟨0, by omega, rfl, rfl⟩
  case round =>
    obtain ⟨k, hk, rfl, rfl⟩ := hrel
    have hlt := accN_lt s.data.toList 0 k
    by_cases h1 : k < 4
    · have hp := Nat.pow_le_pow_right (n := 256) (by omega) (show k ≤ 3 by omega)
      have ha : accN s.data.toList 0 (k + 1) = accN s.data.toList 0 k * 256 + s[k].toNat := by
        rw [accN, Nat.zero_add, getD_byte s k (by omega)]
      have hor := u32_mul256 (x := accN s.data.toList 0 k) (b := s[k].toNat) s[k].toNat_lt (by omega)
      rw [← ha] at hor
      have hx : accN s.data.toList 0 k < 16777216 := by omega
      have HO := Lib.hid hor
      clear ha hp hor hlt
      generalize accN s.data.toList 0 k = X at *
      go_wp2
      go_round
      case rel => exact ⟨k + 1, by omega, by go_num, by rw [← HO.out, Int.emod_eq_of_lt (by omega) (by have := s[k].toNat_lt; omega)]⟩
      case measure => simp [intOf]; omega
    · obtain rfl : k = 4 := by omega
      go_wp2
      go_ret
      exact ⟨rfl, rfl⟩
end Go.Proofs.YtmmpnkcfekhkhaaDoor
