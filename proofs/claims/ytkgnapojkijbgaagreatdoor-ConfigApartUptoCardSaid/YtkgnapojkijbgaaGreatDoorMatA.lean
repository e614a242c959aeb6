/- The contracts of what asks words and names whether they may be: matcher.isWordByte, rightWord, rightWords, rightName. -/
import Derived.Test.YtkgnapojkijbgaaGreatDoorMatM
import Derived.Test.YtkgnapojkijbgaaGreatDoorLabC
import Derived.WalkLawsBesides
namespace Go.Proofs.YtkgnapojkijbgaaGreatDoor
open Go.RowKit

theorem wordB_is (c : UInt8) : wordB c = (decide (97 ≤ c.toNat ∧ c.toNat ≤ 122 ∨ 65 ≤ c.toNat ∧ c.toNat ≤ 90) || decide (48 ≤ c.toNat ∧ c.toNat ≤ 57) || decide (c.toNat = 95 ∨ c.toNat = 45 ∨ c.toNat = 46 ∨ c.toNat = 47 ∨ c.toNat = 58)) := by
  have e : ∀ k : UInt8, (c == k) = decide (c.toNat = k.toNat) := fun k => by rw [Bool.eq_iff_iff, beq_iff_eq, decide_eq_true_iff, UInt8.toNat_inj]
  unfold wordB letC digC
  rw [e, e, e, e, e]
  simp [Bool.decide_or, Bool.or_assoc]

set_option maxHeartbeats 1600000 in
theorem isWordByte_any (c : UInt8) (w : World) : Calls Tryz.prog 299 #[.int .u8 (c.toNat : Int)] w (Bool1 (wordB c) w) := by
  rw [wordB_is]
  generalize c.toNat = n
  by_cases e1 : n = 95
  · subst e1
    go_enter Tryz.func299, Tryz.ntmps299
    go_wp2
    go_ret
    exact ⟨rfl, rfl⟩
  by_cases e2 : n = 45
  · subst e2
    go_enter Tryz.func299, Tryz.ntmps299
    go_wp2
    go_ret
    exact ⟨rfl, rfl⟩
  by_cases e3 : n = 46
  · subst e3
    go_enter Tryz.func299, Tryz.ntmps299
    go_wp2
    go_ret
    exact ⟨rfl, rfl⟩
  by_cases e4 : n = 47
  · subst e4
    go_enter Tryz.func299, Tryz.ntmps299
    go_wp2
    go_ret
    exact ⟨rfl, rfl⟩
  by_cases e5 : n = 58
  · subst e5
    go_enter Tryz.func299, Tryz.ntmps299
    go_wp2
    go_ret
    exact ⟨rfl, rfl⟩
  have f1 : ((n : Int) == 95) = false := beq_eq_false_iff_ne.2 (by omega)
  have f2 : ((n : Int) == 45) = false := beq_eq_false_iff_ne.2 (by omega)
  have f3 : ((n : Int) == 46) = false := beq_eq_false_iff_ne.2 (by omega)
  have f4 : ((n : Int) == 47) = false := beq_eq_false_iff_ne.2 (by omega)
  have f5 : ((n : Int) == 58) = false := beq_eq_false_iff_ne.2 (by omega)
  by_cases h1 : 97 ≤ n <;> by_cases h2 : n ≤ 122 <;> by_cases h3 : 65 ≤ n <;> by_cases h4 : n ≤ 90 <;> by_cases h5 : 48 ≤ n <;> by_cases h6 : n ≤ 57 <;> (try omega)
  all_goals
    go_enter Tryz.func299, Tryz.ntmps299
    go_wp2
    go_ret
    exact ⟨by first | (simp [h1, h2, h3, h4, h5, h6, e1, e2, e3, e4, e5]; done) | (simp [h1, h2, h3, h4, h5, h6, e1, e2, e3, e4, e5]; omega), rfl⟩

theorem wordB_at {s : ByteArray} (h : s.data.toList.all wordB = true) (k : Nat) (hk : k < s.size) : wordB s[k] = true := by
  rw [List.all_eq_true] at h
  exact h _ (by rw [← byte_at s k hk]; exact List.getElem_mem _)

set_option maxHeartbeats 800000 in
theorem rightWord_any (s : ByteArray) (w : World) (hs : s.size ≤ maxLen) : Calls Tryz.prog 271 #[.string s] w (Bool1 (wordC s.data.toList) w) := by
  unfold maxLen at hs
  have hl : s.data.toList.length = s.size := by simp
  by_cases h2 : s.size ≤ 64
  case neg =>
    have hR : wordC s.data.toList = false := by unfold wordC; rw [hl]; simp [h2]
    rw [hR]
    clear hR hl
    go_enter Tryz.func271, Tryz.ntmps271
    go_wp2
    go_ret
    exact ⟨rfl, rfl⟩
  by_cases hall : s.data.toList.all wordB = true
  · have hR : wordC s.data.toList = true := by unfold wordC; rw [hl, hall]; simp [h2]
    have HA := Lib.hid (wordB_at hall)
    rw [hR]
    clear hR hl hall
    go_enter Tryz.func271, Tryz.ntmps271
    go_wp2
    go_loop [3] (fun i => ∃ k : Nat, k ≤ s.size ∧ i = .int .i64 k) (fun i => s.size - (intOf i).toNat)
    case atStart => exact ⟨0, Nat.zero_le _, rfl⟩
    case round =>
      obtain ⟨k, hk, rfl⟩ := hrel
      by_cases hkl : k < s.size
      · have hw := HA.out k hkl
        go_wp2_with (go_at_call 299; refine (isWordByte_any _ _).mono ?_; rintro e w2 ⟨rfl, rfl⟩)
        go_round
        case rel => exact ⟨k + 1, by omega, by go_num⟩
        case measure => simp [intOf]; omega
      · go_wp2
        go_ret
        exact ⟨rfl, rfl⟩
  · obtain ⟨j, hj, hbad, hok⟩ := all_not s hall
    have hR : wordC s.data.toList = false := by unfold wordC; simp only [Bool.not_eq_true] at hall; rw [hall]; simp
    have HA := Lib.hid hok
    have HB := Lib.hid hbad
    rw [hR]
    clear hR hl hall hok hbad
    go_enter Tryz.func271, Tryz.ntmps271
    go_wp2
    go_loop [3] (fun i => ∃ k : Nat, k ≤ j ∧ i = .int .i64 k) (fun i => s.size - (intOf i).toNat)
    case atStart => exact ⟨0, Nat.zero_le _, rfl⟩
    case round =>
      obtain ⟨k, hk, rfl⟩ := hrel
      by_cases hkl : k = j
      · subst hkl
        have hb := HB.out
        go_wp2_with (go_at_call 299; refine (isWordByte_any _ _).mono ?_; rintro e w2 ⟨rfl, rfl⟩)
        go_ret
        exact ⟨rfl, rfl⟩
      · have hw := HA.out k (by omega)
        have hkz : k < s.size := by omega
        go_wp2_with (go_at_call 299; refine (isWordByte_any _ _).mono ?_; rintro e w2 ⟨rfl, rfl⟩)
        go_round
        case rel => exact ⟨k + 1, by omega, by go_num⟩
        case measure => simp [intOf]; omega

theorem lessB_bytes : ∀ a b, Op.bytesLess a b = lessB a b
  | [], [] => rfl
  | [], _ :: _ => rfl
  | _ :: _, [] => rfl
  | a :: x, b :: y => by
    show (decide (a < b) || (a == b && Op.bytesLess x y)) = lessB (a :: x) (b :: y)
    rw [lessB_bytes x y]; rfl
theorem ltW_bytes (a b : ByteArray) : Op.bytesLess a.toList b.toList = ltW a b := by
  rw [ByteArray.toList_eq, ByteArray.toList_eq, lessB_bytes]; rfl

set_option maxHeartbeats 1600000 in
theorem rightWords_any (a : Option Addr) (c : Nat) (ws : List ByteArray) (w : World) (h : HasStrs w a c ws) :
    Calls Tryz.prog 213 #[.slice a ws.length c] w (Bool1 (wordsC ws && decide (1 ≤ ws.length)) w) := by
  obtain ⟨h1, h2, h3, h4⟩ := h
  unfold maxLen at h2
  rcases h4 with rfl | ⟨b, off, rfl, hb, hcell⟩
  · go_enter Tryz.func213, Tryz.ntmps213
    go_wp2
    refine wp_loop_rounds 1 ?_
    rw [rounds_succ]
    go_wp2
    go_ret
    exact ⟨rfl, rfl⟩
  by_cases h0 : 1 ≤ ws.length
  case neg =>
    obtain rfl : ws = [] := List.eq_nil_of_length_eq_zero (by omega)
    go_enter Tryz.func213, Tryz.ntmps213
    go_wp2
    refine wp_loop_rounds 1 ?_
    rw [rounds_succ]
    go_wp2
    go_ret
    exact ⟨rfl, rfl⟩
  rw [decide_eq_true h0, Bool.and_true]
  obtain ⟨J, hJ, hok, hend⟩ := words_end ws
  have HC := Lib.hid hcell
  have HM := Lib.hid (fun (k : Nat) (hk : k < ws.length) => h3 _ (List.getElem_mem hk))
  have HOK := Lib.hid hok
  have HE := Lib.hid hend
  clear hcell h3 hok hend
  go_enter Tryz.func213, Tryz.ntmps213
  go_wp2
  go_loop [7] (fun i => ∃ k : Nat, k ≤ J ∧ i = .int .i64 k) (fun i => ws.length - (intOf i).toNat)
  case atStart => exact ⟨0, Nat.zero_le _, rfl⟩
  case round =>
    obtain ⟨k, hk, rfl⟩ := hrel
    by_cases hkl : k < ws.length
    · have hc1 := HC.out k hkl
      have hm1 := HM.out k hkl
      have hrw := fun W => rightWord_any ws[k] W hm1
      have HRW := Lib.hid hrw
      clear hrw hm1
      cases hwd : wordC ws[k].data.toList with
      | false =>
        have hres : wordsC ws = false := by
          rcases HE.out with ⟨rfl, hr⟩ | ⟨hj, hq, hr⟩
          · exact absurd (((wordsC_iff ws).1 hr).1 _ (List.getElem_mem hkl)) (by rw [hwd]; simp)
          · exact hr
        rw [hwd] at HRW
        have HR := Lib.hid hres
        clear hres hwd
        cases k with
        | zero =>
          simp only [Nat.add_zero] at hc1
          go_wp2_with (go_at_call 271; refine (HRW.out _).mono ?_; rintro e w2 ⟨rfl, rfl⟩)
          go_ret
          exact ⟨by rw [HR.out]; rfl, rfl⟩
        | succ m =>
          go_wp2_with (go_at_call 271; refine (HRW.out _).mono ?_; rintro e w2 ⟨rfl, rfl⟩)
          go_ret
          exact ⟨by rw [HR.out]; rfl, rfl⟩
      | true =>
        rw [hwd] at HRW
        cases k with
        | zero =>
          simp only [Nat.add_zero] at hc1
          have hJ1 : 0 < J := by
            rcases HE.out with ⟨he, hr⟩ | ⟨hj, hq, hr⟩
            · omega
            · rcases Nat.eq_zero_or_pos J with h | h
              · subst h
                rw [okW_zero ws hkl, hwd] at hq
                cases hq
              · exact h
          clear hwd
          go_wp2_with (go_at_call 271; refine (HRW.out _).mono ?_; rintro e w2 ⟨rfl, rfl⟩)
          go_round
          case rel => exact ⟨1, by omega, rfl⟩
          case measure => simp [intOf]; omega
        | succ m =>
          have hml : m < ws.length := by omega
          have c3 := HC.out m hml
          have e1 : ((m + 1 : Nat) : Int) = (m : Int) + 1 := by omega
          have e2 : IntKind.i64.wrap ((m : Int) + 1 - 1) = (m : Int) := by rw [IntWalk.i64_in _ (by omega)]; omega
          have e3 : (m : Int) + 1 - 1 = (m : Int) := by omega
          have e4 : (0 : Int) < (m : Int) + 1 := by omega
          have hlt := ltW_bytes ws[m] ws[m + 1]
          cases hl : ltW ws[m] ws[m + 1] with
          | false =>
            have hres : wordsC ws = false := by
              rcases HE.out with ⟨rfl, hr⟩ | ⟨hj, hq, hr⟩
              · have := List.pairwise_iff_getElem.1 ((wordsC_iff ws).1 hr).2 m (m + 1) hml hkl (by omega)
                rw [hl] at this
                cases this
              · exact hr
            have HR := Lib.hid hres
            rw [hl] at hlt
            clear hres hwd hl
            go_wp2_with (go_at_call 271; refine (HRW.out _).mono ?_; rintro e w2 ⟨rfl, rfl⟩)
            go_ret
            exact ⟨by rw [HR.out]; rfl, rfl⟩
          | true =>
            have hJ1 : m + 1 < J := by
              rcases HE.out with ⟨he, hr⟩ | ⟨hj, hq, hr⟩
              · omega
              · rcases (by omega : m + 1 < J ∨ m + 1 = J) with h | h
                · exact h
                · subst h
                  rw [okW_succ ws m hkl, hwd, hl] at hq
                  cases hq
            rw [hl] at hlt
            clear hwd hl
            go_wp2_with (go_at_call 271; refine (HRW.out _).mono ?_; rintro e w2 ⟨rfl, rfl⟩)
            go_round
            case rel => exact ⟨m + 2, by omega, by go_num⟩
            case measure => simp [intOf]; omega
    · have hR : wordsC ws = true := by
        rcases HE.out with ⟨_, hr⟩ | ⟨hj, _, _⟩
        · exact hr
        · omega
      have HR := Lib.hid hR
      clear hR
      go_wp2
      go_ret
      exact ⟨by rw [HR.out]; simp; omega, rfl⟩

/-- 'v' -/
def vB : ByteArray := ⟨#[118]⟩
theorem nameC_set (s : ByteArray) : rightC [(s, vB)] = nameC s.data.toList := by
  have hv : valC vB.data.toList = true := by decide
  rw [Bool.eq_iff_iff, rightC_iff]
  constructor
  · rintro ⟨_, h, _⟩
    have := h (s, vB) (by simp)
    simp only [labC, Bool.and_eq_true] at this
    exact this.1
  · intro h
    refine ⟨by simp, fun l hl => ?_, List.pairwise_singleton _ _⟩
    rw [List.mem_singleton] at hl
    subst hl
    simp only [labC, h, hv, Bool.and_true]

set_option maxHeartbeats 800000 in
theorem mName_any (s : ByteArray) (w : World) (hs : s.size ≤ maxLen) : Calls Tryz.prog 212 #[.string s] w (BoolB (nameC s.data.toList) w) := by
  rw [← nameC_set]
  have hL : HasLabs (w.alloc (.cells #[.string s, .string vB] 152)) (some ⟨w.heap.size, 0, none⟩) 1 [(s, vB)] := by
    refine ⟨Nat.le_refl _, by unfold maxLen; omega, ?_, .inr ⟨w.heap.size, 0, rfl, by simp, fun i hi => ?_⟩⟩
    · intro l hl
      rw [List.mem_singleton] at hl
      subst hl
      exact ⟨hs, by show vB.size ≤ _; unfold maxLen; decide⟩
    · obtain rfl : i = 0 := by simpa using hi
      exact ⟨World.cell?_alloc_mark w _ _ (0, 0) 0, World.cell?_alloc_mark w _ _ (0, 0) 1⟩
  have HR := Lib.hid (right_any _ _ _ _ hL)
  clear hL
  go_enter Tryz.func212, Tryz.ntmps212
  go_wp2_with (go_at_call 164; refine HR.out.mono ?_; rintro e w2 ⟨rfl, hb2⟩)
  go_ret
  exact ⟨rfl, bthen ((Below.refl _ _).alloc (Nat.le_refl _) _) hb2⟩
end Go.Proofs.YtkgnapojkijbgaaGreatDoor
