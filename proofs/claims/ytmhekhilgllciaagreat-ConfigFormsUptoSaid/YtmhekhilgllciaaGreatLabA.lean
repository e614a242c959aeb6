/- The contracts of what asks a name and a value whether it may be: label.isDigit, isLetter, rightName, rightValue, rightLabel. -/
import Derived.Test.YtmhekhilgllciaaGreatLabM
import Derived.Test.YtmhekhilgllciaaGreatInfo
import Derived.Test.YtmhekhilgllciaaGreatLib2
import Derived.BigQuiet
import Derived.Deep.QuietTactic
namespace Go.Proofs.YtmhekhilgllciaaGreat
open Go.RowKit

theorem isDigit_any (c : UInt8) (w : World) : Calls Tryz.prog 230 #[.int .u8 (c.toNat : Int)] w fun e w' => e = .returned (.bool (digC c)) ∧ w = w' := by
  have e : digC c = decide (48 ≤ c.toNat ∧ c.toNat ≤ 57) := rfl
  rw [e]
  clear e
  generalize c.toNat = n
  by_cases h1 : 48 ≤ n
  · by_cases h2 : n ≤ 57
    · go_enter Tryz.func230, Tryz.ntmps230
      go_wp2
      go_ret
      exact ⟨by simp [h1, h2]; try omega, rfl⟩
    · go_enter Tryz.func230, Tryz.ntmps230
      go_wp2
      go_ret
      exact ⟨by simp [h2]; try omega, rfl⟩
  · go_enter Tryz.func230, Tryz.ntmps230
    go_wp2
    go_ret
    exact ⟨by simp, rfl⟩

theorem isLetter_any (c : UInt8) (w : World) : Calls Tryz.prog 231 #[.int .u8 (c.toNat : Int)] w fun e w' => e = .returned (.bool (letC c)) ∧ w = w' := by
  have e : letC c = decide (97 ≤ c.toNat ∧ c.toNat ≤ 122 ∨ 65 ≤ c.toNat ∧ c.toNat ≤ 90) := rfl
  rw [e]
  clear e
  generalize c.toNat = n
  by_cases h1 : 97 ≤ n <;> by_cases h2 : n ≤ 122 <;> by_cases h3 : 65 ≤ n <;> by_cases h4 : n ≤ 90 <;> (try omega)
  all_goals
    go_enter Tryz.func231, Tryz.ntmps231
    go_wp2
    go_ret
    exact ⟨by first | (simp [h1, h2, h3, h4]; done) | (simp [h1, h2, h3, h4]; omega), rfl⟩

theorem byte_at (s : ByteArray) (k : Nat) (h : k < s.size) : s.data.toList[k]'(by simpa using h) = s[k] := rfl
theorem headD_at : ∀ (l : List UInt8) (h : 0 < l.length), l.headD 48 = l[0]
  | _ :: _, _ => rfl
theorem wrd_at {s : ByteArray} (h : s.data.toList.all wrdC = true) (k : Nat) (hk : k < s.size) : wrdC s[k] = true := by
  rw [List.all_eq_true] at h
  exact h _ (by rw [← byte_at s k hk]; exact List.getElem_mem _)
theorem all_not {p : UInt8 → Bool} (s : ByteArray) (h : ¬ s.data.toList.all p = true) : ∃ j, ∃ hj : j < s.size, p s[j] = false ∧ ∀ k (_hk : k < j), p (s[k]'(by omega)) = true := by
  obtain ⟨j, hj, hp, ha⟩ := first_not (fun i => if h : i < s.size then p s[i] else true) s.size (fun hall => h (by
    rw [List.all_eq_true]
    intro x hx
    obtain ⟨i, hi, rfl⟩ := List.getElem_of_mem hx
    have hi' : i < s.size := by simpa using hi
    have := hall i hi'
    simp only [hi', dite_true] at this
    exact this))
  refine ⟨j, hj, by simpa [hj] using hp, fun k hk => ?_⟩
  have := ha k hk
  simpa [show k < s.size by omega] using this

/-- the tests of a byte, as the walk spells them -/
theorem eq_of_95 {c : UInt8} (h : (c == 95) = true) : c.toNat = 95 := by rw [beq_iff_eq] at h; subst h; rfl
theorem ne_of_95 {c : UInt8} (h : (c == 95) = false) : ((c.toNat : Int) == 95) = false := by
  rw [beq_eq_false_iff_ne] at h ⊢
  intro e
  exact h (UInt8.toNat_inj.1 (by show c.toNat = 95; omega))

def Bool1 (B : Bool) (w : World) (e : Ending) (w' : World) : Prop := e = .returned (.bool B) ∧ w = w'

set_option maxHeartbeats 800000 in
theorem rightName_any (s : ByteArray) (w : World) (hs : s.size ≤ maxLen) : Calls Tryz.prog 218 #[.string s] w (Bool1 (nameC s.data.toList) w) := by
  unfold maxLen at hs
  have hl : s.data.toList.length = s.size := by simp
  by_cases h1 : 1 ≤ s.size
  case neg =>
    have hR : nameC s.data.toList = false := by unfold nameC; rw [hl]; simp [h1]
    rw [hR]
    clear hR hl
    go_enter Tryz.func218, Tryz.ntmps218
    go_wp2
    go_ret
    exact ⟨rfl, rfl⟩
  by_cases h2 : s.size ≤ 64
  case neg =>
    have hR : nameC s.data.toList = false := by unfold nameC; rw [hl]; simp [h2]
    rw [hR]
    clear hR hl
    go_enter Tryz.func218, Tryz.ntmps218
    go_wp2
    go_ret
    exact ⟨rfl, rfl⟩
  have h0 : s.data.toList.headD 48 = s[0] := (headD_at _ (by omega)).trans (byte_at s 0 (by omega))
  cases h3 : digC s[0] with
  | true =>
    have hR : nameC s.data.toList = false := by unfold nameC; rw [h0, h3]; simp
    rw [hR]
    clear hR hl h0
    go_enter Tryz.func218, Tryz.ntmps218
    go_wp2_with (go_at_call 230; refine (isDigit_any _ _).mono ?_; rintro e w2 ⟨rfl, rfl⟩)
    go_ret
    exact ⟨rfl, rfl⟩
  | false =>
    by_cases hall : s.data.toList.all wrdC = true
    · have hR : nameC s.data.toList = true := by unfold nameC; rw [hl, h0, h3, hall]; simp [h1, h2]
      have HA := Lib.hid (wrd_at hall)
      rw [hR]
      clear hR hl h0 hall
      go_enter Tryz.func218, Tryz.ntmps218
      go_wp2_with (go_at_call 230; refine (isDigit_any _ _).mono ?_; rintro e w2 ⟨rfl, rfl⟩)
      go_loop [3] (fun i => ∃ k : Nat, k ≤ s.size ∧ i = .int .i64 k) (fun i => s.size - (intOf i).toNat)
      case atStart => exact ⟨0, Nat.zero_le _, rfl⟩
      case round =>
        obtain ⟨k, hk, rfl⟩ := hrel
        by_cases hkl : k < s.size
        · have hw := HA.out k hkl
          unfold wrdC at hw
          cases hq1 : letC s[k] with
          | true =>
            clear hw
            go_wp2_with (first | (go_at_call 231; refine (isLetter_any _ _).mono ?_; rintro e w2 ⟨rfl, rfl⟩) | (go_at_call 230; refine (isDigit_any _ _).mono ?_; rintro e w2 ⟨rfl, rfl⟩))
            go_round
            case rel => exact ⟨k + 1, by omega, by go_num⟩
            case measure => simp [intOf]; omega
          | false =>
            cases hq2 : digC s[k] with
            | true =>
              clear hw
              go_wp2_with (first | (go_at_call 231; refine (isLetter_any _ _).mono ?_; rintro e w2 ⟨rfl, rfl⟩) | (go_at_call 230; refine (isDigit_any _ _).mono ?_; rintro e w2 ⟨rfl, rfl⟩))
              go_round
              case rel => exact ⟨k + 1, by omega, by go_num⟩
              case measure => simp [intOf]; omega
            | false =>
              have h95 := eq_of_95 (by simpa [hq1, hq2] using hw)
              have h96 : ((s[k].toNat : Int) == 95) = true := by rw [beq_iff_eq]; omega
              have h97 : ((s[k].toNat : Int) != 95) = false := by rw [bne, h96]; rfl
              clear hw h95
              go_wp2_with (first | (go_at_call 231; refine (isLetter_any _ _).mono ?_; rintro e w2 ⟨rfl, rfl⟩) | (go_at_call 230; refine (isDigit_any _ _).mono ?_; rintro e w2 ⟨rfl, rfl⟩))
              go_round
              case rel => exact ⟨k + 1, by omega, by go_num⟩
              case measure => simp [intOf]; omega
        · go_wp2
          go_ret
          exact ⟨rfl, rfl⟩
    · obtain ⟨j, hj, hbad, hok⟩ := all_not s hall
      have hR : nameC s.data.toList = false := by unfold nameC; simp only [Bool.not_eq_true] at hall; rw [hall]; simp
      have HA := Lib.hid hok
      rw [hR]
      unfold wrdC at hbad
      simp only [Bool.or_eq_false_iff] at hbad
      obtain ⟨⟨b1, b2⟩, b3⟩ := hbad
      have b4 := ne_of_95 b3
      have b5 : ((s[j].toNat : Int) != 95) = true := by rw [bne, b4]; rfl
      have B1 := Lib.hid b1
      have B2 := Lib.hid b2
      have B4 := Lib.hid b4
      have B5 := Lib.hid b5
      clear hR hl h0 hall hok b1 b2 b3 b4 b5
      go_enter Tryz.func218, Tryz.ntmps218
      go_wp2_with (go_at_call 230; refine (isDigit_any _ _).mono ?_; rintro e w2 ⟨rfl, rfl⟩)
      go_loop [3] (fun i => ∃ k : Nat, k ≤ j ∧ i = .int .i64 k) (fun i => s.size - (intOf i).toNat)
      case atStart => exact ⟨0, Nat.zero_le _, rfl⟩
      case round =>
        obtain ⟨k, hk, rfl⟩ := hrel
        by_cases hkl : k = j
        · subst hkl
          have b1 := B1.out
          have b2 := B2.out
          have b4 := B4.out
          have b5 := B5.out
          go_wp2_with (first | (go_at_call 231; refine (isLetter_any _ _).mono ?_; rintro e w2 ⟨rfl, rfl⟩) | (go_at_call 230; refine (isDigit_any _ _).mono ?_; rintro e w2 ⟨rfl, rfl⟩))
          go_ret
          exact ⟨rfl, rfl⟩
        · have hw := HA.out k (by omega)
          have hkz : k < s.size := by omega
          unfold wrdC at hw
          cases hq1 : letC (s[k]'hkz) with
          | true =>
            clear hw
            go_wp2_with (first | (go_at_call 231; refine (isLetter_any _ _).mono ?_; rintro e w2 ⟨rfl, rfl⟩) | (go_at_call 230; refine (isDigit_any _ _).mono ?_; rintro e w2 ⟨rfl, rfl⟩))
            go_round
            case rel => exact ⟨k + 1, by omega, by go_num⟩
            case measure => simp [intOf]; omega
          | false =>
            cases hq2 : digC (s[k]'hkz) with
            | true =>
              clear hw
              go_wp2_with (first | (go_at_call 231; refine (isLetter_any _ _).mono ?_; rintro e w2 ⟨rfl, rfl⟩) | (go_at_call 230; refine (isDigit_any _ _).mono ?_; rintro e w2 ⟨rfl, rfl⟩))
              go_round
              case rel => exact ⟨k + 1, by omega, by go_num⟩
              case measure => simp [intOf]; omega
            | false =>
              have h95 := eq_of_95 (by simpa [hq1, hq2] using hw)
              have h96 : (((s[k]'hkz).toNat : Int) == 95) = true := by rw [beq_iff_eq]; omega
              have h97 : (((s[k]'hkz).toNat : Int) != 95) = false := by rw [bne, h96]; rfl
              clear hw h95
              go_wp2_with (first | (go_at_call 231; refine (isLetter_any _ _).mono ?_; rintro e w2 ⟨rfl, rfl⟩) | (go_at_call 230; refine (isDigit_any _ _).mono ?_; rintro e w2 ⟨rfl, rfl⟩))
              go_round
              case rel => exact ⟨k + 1, by omega, by go_num⟩
              case measure => simp [intOf]; omega

theorem vis_at {s : ByteArray} (h : s.data.toList.all visC = true) (k : Nat) (hk : k < s.size) : 32 ≤ s[k].toNat ∧ s[k].toNat ≤ 126 := by
  rw [List.all_eq_true] at h
  have h2 := h (s.data.toList[k]'(by simpa using hk)) (List.getElem_mem _)
  rw [byte_at s k hk] at h2
  simpa [visC] using h2

set_option maxHeartbeats 800000 in
theorem rightValue_any (s : ByteArray) (w : World) (hs : s.size ≤ maxLen) : Calls Tryz.prog 219 #[.string s] w (Bool1 (valC s.data.toList) w) := by
  unfold maxLen at hs
  have hl : s.data.toList.length = s.size := by simp
  by_cases h1 : 1 ≤ s.size
  case neg =>
    have hR : valC s.data.toList = false := by unfold valC; rw [hl]; simp [h1]
    rw [hR]
    clear hR hl
    go_enter Tryz.func219, Tryz.ntmps219
    go_wp2
    go_ret
    exact ⟨rfl, rfl⟩
  by_cases h2 : s.size ≤ 64
  case neg =>
    have hR : valC s.data.toList = false := by unfold valC; rw [hl]; simp [h2]
    rw [hR]
    clear hR hl
    go_enter Tryz.func219, Tryz.ntmps219
    go_wp2
    go_ret
    exact ⟨rfl, rfl⟩
  by_cases hall : s.data.toList.all visC = true
  · have hR : valC s.data.toList = true := by unfold valC; rw [hl, hall]; simp [h1, h2]
    have HA := Lib.hid (vis_at hall)
    rw [hR]
    clear hR hl hall
    go_enter Tryz.func219, Tryz.ntmps219
    go_wp2
    go_loop [3] (fun i => ∃ k : Nat, k ≤ s.size ∧ i = .int .i64 k) (fun i => s.size - (intOf i).toNat)
    case atStart => exact ⟨0, Nat.zero_le _, rfl⟩
    case round =>
      obtain ⟨k, hk, rfl⟩ := hrel
      by_cases hkl : k < s.size
      · obtain ⟨hw1, hw2⟩ := HA.out k hkl
        go_wp2
        go_round
        case rel => exact ⟨k + 1, by omega, by go_num⟩
        case measure => simp [intOf]; omega
      · go_wp2
        go_ret
        exact ⟨rfl, rfl⟩
  · obtain ⟨j, hj, hbad, hok⟩ := all_not s hall
    have hR : valC s.data.toList = false := by unfold valC; simp only [Bool.not_eq_true] at hall; rw [hall]; simp
    have HA := Lib.hid hok
    have HB := Lib.hid hbad
    rw [hR]
    clear hR hl hall hok hbad
    go_enter Tryz.func219, Tryz.ntmps219
    go_wp2
    go_loop [3] (fun i => ∃ k : Nat, k ≤ j ∧ i = .int .i64 k) (fun i => s.size - (intOf i).toNat)
    case atStart => exact ⟨0, Nat.zero_le _, rfl⟩
    case round =>
      obtain ⟨k, hk, rfl⟩ := hrel
      by_cases hkl : k = j
      · subst hkl
        have hb := HB.out
        simp only [visC, decide_eq_false_iff_not] at hb
        by_cases h32 : 32 ≤ s[k].toNat
        · have h126 : 126 < s[k].toNat := by omega
          clear hb
          go_wp2
          go_ret
          exact ⟨rfl, rfl⟩
        · clear hb
          go_wp2
          go_ret
          exact ⟨rfl, rfl⟩
      · have hw := HA.out k (by omega)
        simp only [visC, decide_eq_true_eq] at hw
        obtain ⟨hw1, hw2⟩ := hw
        go_wp2
        go_round
        case rel => exact ⟨k + 1, by omega, by go_num⟩
        case measure => simp [intOf]; omega

theorem rightLabel_any (l : Lab) (w : World) (h1 : l.1.size ≤ maxLen) (h2 : l.2.size ≤ maxLen) :
    Calls Tryz.prog 183 #[.agg #[.string l.1, .string l.2]] w fun e w' => e = .returned (.bool (labC l)) ∧ Below w.heap.size w w' := by
  have e : labC l = (nameC l.1.data.toList && valC l.2.data.toList) := rfl
  rw [e]
  clear e
  have hn := fun W => rightName_any l.1 W h1
  have hv := fun W => rightValue_any l.2 W h2
  have HN := Lib.hid hn
  have HV := Lib.hid hv
  clear hn hv
  generalize nameC l.1.data.toList = A at *
  generalize valC l.2.data.toList = B at *
  cases A with
  | true =>
    go_enter Tryz.func183, Tryz.ntmps183
    go_wp2_with (first | (go_at_call 218; refine (HN.out _).mono ?_; rintro e w2 ⟨rfl, rfl⟩) | (go_at_call 219; refine (HV.out _).mono ?_; rintro e w2 ⟨rfl, rfl⟩))
    go_ret
    exact ⟨rfl, (Below.refl _ _).alloc (Nat.le_refl _) _⟩
  | false =>
    go_enter Tryz.func183, Tryz.ntmps183
    go_wp2_with (first | (go_at_call 218; refine (HN.out _).mono ?_; rintro e w2 ⟨rfl, rfl⟩) | (go_at_call 219; refine (HV.out _).mono ?_; rintro e w2 ⟨rfl, rfl⟩))
    go_ret
    exact ⟨rfl, (Below.refl _ _).alloc (Nat.le_refl _) _⟩
end Go.Proofs.YtmhekhilgllciaaGreat
