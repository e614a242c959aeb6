/- Matchers: which words and matchers may be, whether one holds of a set. Mathematics alone. -/
import Derived.Test.YtmhekhilgllciaaGreatLabM
import Derived.Test.YtmhekhilgllciaaGreatLabC
import Derived.WalkLawsBesides
import Derived.Test.YtmhekhilgllciaaGreatInfo
import Derived.Test.YtmhekhilgllciaaGreatLib2
import Derived.BigQuiet
import Derived.Maps.OwnSet
import Derived.Maps.RangeWalk
import Derived.Test.YtmhekhilgllciaaGreatOwn
import Derived.Deep.RegionWith
import Derived.Deep.DeepCutAuto
import Derived.Test.YtmhekhilgllciaaGreatLib3
namespace Go.Proofs.YtmhekhilgllciaaGreat

structure Mat where
  name : ByteArray
  how : Int
  words : List ByteArray

def wordB (c : UInt8) : Bool := letC c || digC c || (c == 95 || c == 45 || c == 46 || c == 47 || c == 58)
def wordC (s : Bs) : Bool := decide (s.length ≤ 64) && s.all wordB
def ltW (a b : ByteArray) : Bool := lessB a.data.toList b.data.toList
/-- what is asked of place i of a row of words -/
def okW (ws : List ByteArray) (i : Nat) : Bool :=
  match ws[i]? with
  | none => true
  | some x => wordC x.data.toList && (match i with | 0 => true | j + 1 => match ws[j]? with | none => true | some p => ltW p x)
def wordsC (ws : List ByteArray) : Bool := (List.range ws.length).all (okW ws)
theorem okW_zero (ws : List ByteArray) (h : 0 < ws.length) : okW ws 0 = wordC ws[0].data.toList := by simp [okW, h]
theorem okW_succ (ws : List ByteArray) (j : Nat) (h : j + 1 < ws.length) : okW ws (j + 1) = (wordC ws[j + 1].data.toList && ltW ws[j] ws[j + 1]) := by
  simp [okW, h, show j < ws.length by omega]
/-- where a walk over the words ends -/
theorem words_end (ws : List ByteArray) : ∃ J, J ≤ ws.length ∧ (∀ k (_h : k < J), okW ws k = true) ∧ (J = ws.length ∧ wordsC ws = true ∨ J < ws.length ∧ okW ws J = false ∧ wordsC ws = false) := by
  cases h : wordsC ws with
  | true => exact ⟨ws.length, Nat.le_refl _, by simpa [wordsC] using h, .inl ⟨rfl, rfl⟩⟩
  | false =>
    obtain ⟨j, hj, hb, ha⟩ := first_not (okW ws) ws.length (fun hall => by
      have : wordsC ws = true := by simpa [wordsC] using hall
      rw [h] at this; cases this)
    exact ⟨j, by omega, ha, .inr ⟨hj, hb, rfl⟩⟩
theorem wordsC_iff (ws : List ByteArray) : wordsC ws = true ↔ (∀ s ∈ ws, wordC s.data.toList = true) ∧ ws.Pairwise fun a b => ltW a b = true := by
  have ht : ∀ {a b c : ByteArray}, ltW a b = true → ltW b c = true → ltW a c = true := fun h g => lessB_trans _ _ _ h g
  constructor
  · intro h
    have h' : ∀ i, i < ws.length → okW ws i = true := by simpa [wordsC] using h
    refine ⟨fun s hs => ?_, ?_⟩
    · obtain ⟨i, hi, rfl⟩ := List.getElem_of_mem hs
      have := h' i hi
      match i, hi, this with
      | 0, hi, this => rwa [okW_zero ws hi] at this
      | j + 1, hi, this => rw [okW_succ ws j hi] at this; simp only [Bool.and_eq_true] at this; exact this.1
    · have adj : ∀ j, (hj : j + 1 < ws.length) → ltW ws[j] ws[j + 1] = true := fun j hj => by
        have := h' (j + 1) hj
        rw [okW_succ ws j hj] at this; simp only [Bool.and_eq_true] at this; exact this.2
      clear h h'
      induction ws with
      | nil => exact List.Pairwise.nil
      | cons a ws ih =>
        have ih := ih fun j hj => adj (j + 1) (by simp; omega)
        refine List.Pairwise.cons (fun b hb => ?_) ih
        cases ws with
        | nil => cases hb
        | cons c ws =>
          have hac : ltW a c = true := adj 0 (by simp)
          rcases List.mem_cons.1 hb with rfl | hb
          · exact hac
          · exact ht hac ((List.pairwise_cons.1 ih).1 b hb)
  · rintro ⟨h2, h3⟩
    simp only [wordsC, List.all_eq_true, List.mem_range]
    intro i hi
    match i, hi with
    | 0, hi => rw [okW_zero ws hi]; exact h2 _ (List.getElem_mem _)
    | j + 1, hi =>
      rw [okW_succ ws j hi, h2 _ (List.getElem_mem _), Bool.true_and]
      exact List.pairwise_iff_getElem.1 h3 j (j + 1) (by omega) hi (by omega)

/-- how a matcher is written, how many words it has at the most, whether it holds of them -/
def signC (how : Int) : Option (Bs × Int × Bool) :=
  if how = 1 then some ([61], 1, true) else if how = 2 then some ([33, 61], 1, false) else if how = 3 then some ([61, 126], 8, true) else if how = 4 then some ([33, 126], 8, false) else none
theorem signC_cases (how : Int) : (how = 1 ∧ signC how = some ([61], 1, true)) ∨ (how = 2 ∧ signC how = some ([33, 61], 1, false)) ∨ (how = 3 ∧ signC how = some ([61, 126], 8, true)) ∨ (how = 4 ∧ signC how = some ([33, 126], 8, false)) ∨ ((how < 1 ∨ 4 < how) ∧ signC how = none) := by
  by_cases h1 : how = 1
  · subst h1; simp [signC]
  by_cases h2 : how = 2
  · subst h2; simp [signC]
  by_cases h3 : how = 3
  · subst h3; simp [signC]
  by_cases h4 : how = 4
  · subst h4; simp [signC]
  refine .inr (.inr (.inr (.inr ⟨by omega, by simp [signC, h1, h2, h3, h4]⟩)))

def rightMr (how : Int) (nm ws : Bool) (n : Nat) : Bool :=
  match signC how with
  | none => false
  | some (_, most, _) => nm && decide ((n : Int) ≤ most) && (ws && decide (1 ≤ n))
def knownC (how : Int) : Bool := (signC how).isSome
def mostC (how : Int) : Int := match signC how with | some (_, n, _) => n | none => 0
theorem rightMr_is (how : Int) (nm ws : Bool) (n : Nat) : rightMr how nm ws n = (knownC how && (nm && (decide ((n : Int) ≤ mostC how) && (ws && decide (1 ≤ n))))) := by
  unfold rightMr knownC mostC
  cases signC how with
  | none => rfl
  | some x => simp [Bool.and_assoc]
/-- which matchers may be -/
def rightM (m : Mat) : Bool := rightMr m.how (nameC m.name.data.toList) (wordsC m.words) m.words.length
def onesC (how : Int) : Bool := match signC how with | some (_, _, b) => b | none => false
def getW (ws : List ByteArray) (v : ByteArray) : Bool := ws.any fun s => decide (s = v)
/-- whether a matcher holds of a set -/
def holdsM (v : ByteArray) (m : Mat) : Bool := getW m.words v == onesC m.how
def joinW : List ByteArray → Bs
  | [] => []
  | s :: r => s.data.toList ++ r.flatMap fun x => 124 :: x.data.toList
def signT (how : Int) : Bs := match signC how with | some (t, _, _) => t | none => []
def textM (m : Mat) : Bs := m.name.data.toList ++ signT m.how ++ 34 :: (joinW m.words ++ [34])
def likeM (a b : Mat) : Bool := decide (a.name = b.name) && decide (a.how = b.how) && decide (a.words = b.words)
theorem rightM_iff (m : Mat) : rightM m = true ↔ nameC m.name.data.toList = true ∧ 1 ≤ m.how ∧ m.how ≤ 4 ∧ wordsC m.words = true ∧ 1 ≤ m.words.length ∧ m.words.length ≤ 8 ∧ (3 ≤ m.how ∨ m.words.length = 1) := by
  unfold rightM rightMr
  rcases signC_cases m.how with ⟨h, e⟩ | ⟨h, e⟩ | ⟨h, e⟩ | ⟨h, e⟩ | ⟨h, e⟩ <;> rw [e] <;> simp only [Bool.and_eq_true, decide_eq_true_eq, Bool.false_eq_true, false_iff] <;> (try constructor) <;> (try rintro ⟨⟨h1, h2⟩, h3, h4⟩) <;> (try rintro ⟨h1, h2, h3, h4, h5, h6, h7⟩) <;> (try refine ⟨?_, ?_, ?_, ?_, ?_, ?_, ?_⟩) <;> (try refine ⟨⟨?_, ?_⟩, ?_, ?_⟩) <;> first | assumption | omega
theorem wordsC_all {ws : List ByteArray} (h : wordsC ws = true) : ∀ x ∈ ws, wordC x.data.toList = true := by
  intro x hx
  obtain ⟨i, hi, rfl⟩ := List.getElem_of_mem hx
  have h' : okW ws i = true := by
    unfold wordsC at h
    exact List.all_eq_true.1 h i (List.mem_range.2 hi)
  unfold okW at h'
  rw [List.getElem?_eq_getElem hi] at h'
  simp only [Bool.and_eq_true] at h'
  exact h'.1
end Go.Proofs.YtmhekhilgllciaaGreat
/- The contracts of what asks words and names whether they may be: matcher.isWordByte, rightWord, rightWords, rightName. -/
namespace Go.Proofs.YtmhekhilgllciaaGreat
open Go.RowKit

theorem wordB_is (c : UInt8) : wordB c = (decide (97 ≤ c.toNat ∧ c.toNat ≤ 122 ∨ 65 ≤ c.toNat ∧ c.toNat ≤ 90) || decide (48 ≤ c.toNat ∧ c.toNat ≤ 57) || decide (c.toNat = 95 ∨ c.toNat = 45 ∨ c.toNat = 46 ∨ c.toNat = 47 ∨ c.toNat = 58)) := by
  have e : ∀ k : UInt8, (c == k) = decide (c.toNat = k.toNat) := fun k => by rw [Bool.eq_iff_iff, beq_iff_eq, decide_eq_true_iff, UInt8.toNat_inj]
  unfold wordB letC digC
  rw [e, e, e, e, e]
  simp [Bool.decide_or, Bool.or_assoc]

set_option maxHeartbeats 1600000 in
theorem isWordByte_any (c : UInt8) (w : World) : Calls Tryz.prog 232 #[.int .u8 (c.toNat : Int)] w (Bool1 (wordB c) w) := by
  rw [wordB_is]
  generalize c.toNat = n
  by_cases e1 : n = 95
  · subst e1
    go_enter Tryz.func232, Tryz.ntmps232
    go_wp2
    go_ret
    exact ⟨rfl, rfl⟩
  by_cases e2 : n = 45
  · subst e2
    go_enter Tryz.func232, Tryz.ntmps232
    go_wp2
    go_ret
    exact ⟨rfl, rfl⟩
  by_cases e3 : n = 46
  · subst e3
    go_enter Tryz.func232, Tryz.ntmps232
    go_wp2
    go_ret
    exact ⟨rfl, rfl⟩
  by_cases e4 : n = 47
  · subst e4
    go_enter Tryz.func232, Tryz.ntmps232
    go_wp2
    go_ret
    exact ⟨rfl, rfl⟩
  by_cases e5 : n = 58
  · subst e5
    go_enter Tryz.func232, Tryz.ntmps232
    go_wp2
    go_ret
    exact ⟨rfl, rfl⟩
  have f1 : ((n : Int) == 95) = false := beq_eq_false_iff_ne.2 (by omega)
  have f2 : ((n : Int) == 45) = false := beq_eq_false_iff_ne.2 (by omega)
  have f3 : ((n : Int) == 46) = false := beq_eq_false_iff_ne.2 (by omega)
  have f4 : ((n : Int) == 47) = false := beq_eq_false_iff_ne.2 (by omega)
  have f5 : ((n : Int) == 58) = false := beq_eq_false_iff_ne.2 (by omega)
  by_cases h1 : 97 ≤ n <;> by_cases h2 : n ≤ 122 <;> by_cases h3 : 65 ≤ n <;> by_cases h4 : n ≤ 90 <;> by_cases h5 : 48 ≤ n <;> by_cases h6 : n ≤ 57 <;> (try omega)
  all_goals
    go_enter Tryz.func232, Tryz.ntmps232
    go_wp2
    go_ret
    exact ⟨by first | (simp [h1, h2, h3, h4, h5, h6, e1, e2, e3, e4, e5]; done) | (simp [h1, h2, h3, h4, h5, h6, e1, e2, e3, e4, e5]; omega), rfl⟩

theorem wordB_at {s : ByteArray} (h : s.data.toList.all wordB = true) (k : Nat) (hk : k < s.size) : wordB s[k] = true := by
  rw [List.all_eq_true] at h
  exact h _ (by rw [← byte_at s k hk]; exact List.getElem_mem _)

set_option maxHeartbeats 800000 in
theorem rightWord_any (s : ByteArray) (w : World) (hs : s.size ≤ maxLen) : Calls Tryz.prog 222 #[.string s] w (Bool1 (wordC s.data.toList) w) := by
  unfold maxLen at hs
  have hl : s.data.toList.length = s.size := by simp
  by_cases h2 : s.size ≤ 64
  case neg =>
    have hR : wordC s.data.toList = false := by unfold wordC; rw [hl]; simp [h2]
    rw [hR]
    clear hR hl
    go_enter Tryz.func222, Tryz.ntmps222
    go_wp2
    go_ret
    exact ⟨rfl, rfl⟩
  by_cases hall : s.data.toList.all wordB = true
  · have hR : wordC s.data.toList = true := by unfold wordC; rw [hl, hall]; simp [h2]
    have HA := Lib.hid (wordB_at hall)
    rw [hR]
    clear hR hl hall
    go_enter Tryz.func222, Tryz.ntmps222
    go_wp2
    go_loop [3] (fun i => ∃ k : Nat, k ≤ s.size ∧ i = .int .i64 k) (fun i => s.size - (intOf i).toNat)
    case atStart => exact ⟨0, Nat.zero_le _, rfl⟩
    case round =>
      obtain ⟨k, hk, rfl⟩ := hrel
      by_cases hkl : k < s.size
      · have hw := HA.out k hkl
        go_wp2_with (go_at_call 232; refine (isWordByte_any _ _).mono ?_; rintro e w2 ⟨rfl, rfl⟩)
        go_round
        case rel => exact ⟨k + 1, by omega, by go_num⟩
        case measure => simp [intOf]; omega
      · go_wp2
        go_ret
        exact ⟨rfl, rfl⟩
  · obtain ⟨j, hj, hbad, hok⟩ := all_not s hall
    have hR : wordC s.data.toList = false := by unfold wordC; simp only [Bool.not_eq_true] at hall; rw [hall]; simp
    have HA := Lib.hid hok
    have HB := Lib.hid hbad
    rw [hR]
    clear hR hl hall hok hbad
    go_enter Tryz.func222, Tryz.ntmps222
    go_wp2
    go_loop [3] (fun i => ∃ k : Nat, k ≤ j ∧ i = .int .i64 k) (fun i => s.size - (intOf i).toNat)
    case atStart => exact ⟨0, Nat.zero_le _, rfl⟩
    case round =>
      obtain ⟨k, hk, rfl⟩ := hrel
      by_cases hkl : k = j
      · subst hkl
        have hb := HB.out
        go_wp2_with (go_at_call 232; refine (isWordByte_any _ _).mono ?_; rintro e w2 ⟨rfl, rfl⟩)
        go_ret
        exact ⟨rfl, rfl⟩
      · have hw := HA.out k (by omega)
        have hkz : k < s.size := by omega
        go_wp2_with (go_at_call 232; refine (isWordByte_any _ _).mono ?_; rintro e w2 ⟨rfl, rfl⟩)
        go_round
        case rel => exact ⟨k + 1, by omega, by go_num⟩
        case measure => simp [intOf]; omega

theorem lessB_bytes : ∀ a b, Op.bytesLess a b = lessB a b
  | [], [] => rfl
  | [], _ :: _ => rfl
  | _ :: _, [] => rfl
  | a :: x, b :: y => by
    show (decide (a < b) || (a == b && Op.bytesLess x y)) = lessB (a :: x) (b :: y)
    rw [lessB_bytes x y]; rfl
theorem ltW_bytes (a b : ByteArray) : Op.bytesLess a.toList b.toList = ltW a b := by
  rw [ByteArray.toList_eq, ByteArray.toList_eq, lessB_bytes]; rfl

set_option maxHeartbeats 1600000 in
theorem rightWords_any (a : Option Addr) (c : Nat) (ws : List ByteArray) (w : World) (h : HasStrs w a c ws) :
    Calls Tryz.prog 191 #[.slice a ws.length c] w (Bool1 (wordsC ws && decide (1 ≤ ws.length)) w) := by
  obtain ⟨h1, h2, h3, h4⟩ := h
  unfold maxLen at h2
  rcases h4 with rfl | ⟨b, off, rfl, hb, hcell⟩
  · go_enter Tryz.func191, Tryz.ntmps191
    go_wp2
    refine wp_loop_rounds 1 ?_
    rw [rounds_succ]
    go_wp2
    go_ret
    exact ⟨rfl, rfl⟩
  by_cases h0 : 1 ≤ ws.length
  case neg =>
    obtain rfl : ws = [] := List.eq_nil_of_length_eq_zero (by omega)
    go_enter Tryz.func191, Tryz.ntmps191
    go_wp2
    refine wp_loop_rounds 1 ?_
    rw [rounds_succ]
    go_wp2
    go_ret
    exact ⟨rfl, rfl⟩
  rw [decide_eq_true h0, Bool.and_true]
  obtain ⟨J, hJ, hok, hend⟩ := words_end ws
  have HC := Lib.hid hcell
  have HM := Lib.hid (fun (k : Nat) (hk : k < ws.length) => h3 _ (List.getElem_mem hk))
  have HOK := Lib.hid hok
  have HE := Lib.hid hend
  clear hcell h3 hok hend
  go_enter Tryz.func191, Tryz.ntmps191
  go_wp2
  go_loop [7] (fun i => ∃ k : Nat, k ≤ J ∧ i = .int .i64 k) (fun i => ws.length - (intOf i).toNat)
  case atStart => exact ⟨0, Nat.zero_le _, rfl⟩
  case round =>
    obtain ⟨k, hk, rfl⟩ := hrel
    by_cases hkl : k < ws.length
    · have hc1 := HC.out k hkl
      have hm1 := HM.out k hkl
      have hrw := fun W => rightWord_any ws[k] W hm1
      have HRW := Lib.hid hrw
      clear hrw hm1
      cases hwd : wordC ws[k].data.toList with
      | false =>
        have hres : wordsC ws = false := by
          rcases HE.out with ⟨rfl, hr⟩ | ⟨hj, hq, hr⟩
          · exact absurd (((wordsC_iff ws).1 hr).1 _ (List.getElem_mem hkl)) (by rw [hwd]; simp)
          · exact hr
        rw [hwd] at HRW
        have HR := Lib.hid hres
        clear hres hwd
        cases k with
        | zero =>
          simp only [Nat.add_zero] at hc1
          go_wp2_with (go_at_call 222; refine (HRW.out _).mono ?_; rintro e w2 ⟨rfl, rfl⟩)
          go_ret
          exact ⟨by rw [HR.out]; rfl, rfl⟩
        | succ m =>
          go_wp2_with (go_at_call 222; refine (HRW.out _).mono ?_; rintro e w2 ⟨rfl, rfl⟩)
          go_ret
          exact ⟨by rw [HR.out]; rfl, rfl⟩
      | true =>
        rw [hwd] at HRW
        cases k with
        | zero =>
          simp only [Nat.add_zero] at hc1
          have hJ1 : 0 < J := by
            rcases HE.out with ⟨he, hr⟩ | ⟨hj, hq, hr⟩
            · omega
            · rcases Nat.eq_zero_or_pos J with h | h
              · subst h
                rw [okW_zero ws hkl, hwd] at hq
                cases hq
              · exact h
          clear hwd
          go_wp2_with (go_at_call 222; refine (HRW.out _).mono ?_; rintro e w2 ⟨rfl, rfl⟩)
          go_round
          case rel => exact ⟨1, by omega, rfl⟩
          case measure => simp [intOf]; omega
        | succ m =>
          have hml : m < ws.length := by omega
          have c3 := HC.out m hml
          have e1 : ((m + 1 : Nat) : Int) = (m : Int) + 1 := by omega
          have e2 : IntKind.i64.wrap ((m : Int) + 1 - 1) = (m : Int) := by rw [IntWalk.i64_in _ (by omega)]; omega
          have e3 : (m : Int) + 1 - 1 = (m : Int) := by omega
          have e4 : (0 : Int) < (m : Int) + 1 := by omega
          have hlt := ltW_bytes ws[m] ws[m + 1]
          cases hl : ltW ws[m] ws[m + 1] with
          | false =>
            have hres : wordsC ws = false := by
              rcases HE.out with ⟨rfl, hr⟩ | ⟨hj, hq, hr⟩
              · have := List.pairwise_iff_getElem.1 ((wordsC_iff ws).1 hr).2 m (m + 1) hml hkl (by omega)
                rw [hl] at this
                cases this
              · exact hr
            have HR := Lib.hid hres
            rw [hl] at hlt
            clear hres hwd hl
            go_wp2_with (go_at_call 222; refine (HRW.out _).mono ?_; rintro e w2 ⟨rfl, rfl⟩)
            go_ret
            exact ⟨by rw [HR.out]; rfl, rfl⟩
          | true =>
            have hJ1 : m + 1 < J := by
              rcases HE.out with ⟨he, hr⟩ | ⟨hj, hq, hr⟩
              · omega
              · rcases (by omega : m + 1 < J ∨ m + 1 = J) with h | h
                · exact h
                · subst h
                  rw [okW_succ ws m hkl, hwd, hl] at hq
                  cases hq
            rw [hl] at hlt
            clear hwd hl
            go_wp2_with (go_at_call 222; refine (HRW.out _).mono ?_; rintro e w2 ⟨rfl, rfl⟩)
            go_round
            case rel => exact ⟨m + 2, by omega, by go_num⟩
            case measure => simp [intOf]; omega
    · have hR : wordsC ws = true := by
        rcases HE.out with ⟨_, hr⟩ | ⟨hj, _, _⟩
        · exact hr
        · omega
      have HR := Lib.hid hR
      clear hR
      go_wp2
      go_ret
      exact ⟨by rw [HR.out]; simp; omega, rfl⟩

/-- 'v' -/
def vB : ByteArray := ⟨#[118]⟩
theorem nameC_set (s : ByteArray) : rightC [(s, vB)] = nameC s.data.toList := by
  have hv : valC vB.data.toList = true := by decide
  rw [Bool.eq_iff_iff, rightC_iff]
  constructor
  · rintro ⟨_, h, _⟩
    have := h (s, vB) (by simp)
    simp only [labC, Bool.and_eq_true] at this
    exact this.1
  · intro h
    refine ⟨by simp, fun l hl => ?_, List.pairwise_singleton _ _⟩
    rw [List.mem_singleton] at hl
    subst hl
    simp only [labC, h, hv, Bool.and_true]

set_option maxHeartbeats 800000 in
theorem mName_any (s : ByteArray) (w : World) (hs : s.size ≤ maxLen) : Calls Tryz.prog 190 #[.string s] w (BoolB (nameC s.data.toList) w) := by
  rw [← nameC_set]
  have hL : HasLabs (w.alloc (.cells #[.string s, .string vB] 124)) (some ⟨w.heap.size, 0, none⟩) 1 [(s, vB)] := by
    refine ⟨Nat.le_refl _, by unfold maxLen; omega, ?_, .inr ⟨w.heap.size, 0, rfl, by simp, fun i hi => ?_⟩⟩
    · intro l hl
      rw [List.mem_singleton] at hl
      subst hl
      exact ⟨hs, by show vB.size ≤ _; unfold maxLen; decide⟩
    · obtain rfl : i = 0 := by simpa using hi
      exact ⟨World.cell?_alloc_mark w _ _ (0, 0) 0, World.cell?_alloc_mark w _ _ (0, 0) 1⟩
  have HR := Lib.hid (right_any _ _ _ _ hL)
  clear hL
  go_enter Tryz.func190, Tryz.ntmps190
  go_wp2_with (go_at_call 121; refine HR.out.mono ?_; rintro e w2 ⟨rfl, hb2⟩)
  go_ret
  exact ⟨rfl, bthen ((Below.refl _ _).alloc (Nat.le_refl _) _) hb2⟩
end Go.Proofs.YtmhekhilgllciaaGreat
/- The map of signs: what 'signs' makes, and what a look-up in it gives. -/
namespace Go.Proofs.YtmhekhilgllciaaGreat
open Go.RowKit Go.Maps

def signElem (v : Value) : Option (DataW Unit × List MemPlace) :=
  match v with
  | .agg cs =>
    match cs.toList with
    | [.string t, .int .i64 n, .bool b] => some (.agg [.lit (.string t.data.toList), .lit (.int .i64 n), .lit (.bool b)], [])
    | _ => none
  | _ => none
def signV (t : ByteArray) (n : Int) (b : Bool) : Value := .agg #[.string t, .int .i64 n, .bool b]
def signD (t : Bs) (n : Int) (b : Bool) : DataW Unit := .agg [.lit (.string t), .lit (.int .i64 n), .lit (.bool b)]
theorem signElem_mk (t : ByteArray) (n : Int) (b : Bool) : signElem (.agg #[.string t, .int .i64 n, .bool b]) = some (signD t.data.toList n b, []) := rfl
theorem signElem_inv {v : Value} {z : DataW Unit × List MemPlace} (h : signElem v = some z) : ∃ t n b, v = signV t n b ∧ z = (signD t.data.toList n b, []) := by
  unfold signElem at h
  split at h
  · rename_i cs
    split at h
    · rename_i t n b hcs
      cases h
      exact ⟨t, n, b, by unfold signV; congr 1; exact Array.toList_inj.1 hcs, rfl⟩
    · cases h
  · cases h
def D1 : DataW Unit := (DataW.map []).put (.int .i64 1) (signD [61] 1 true)
def D2 : DataW Unit := D1.put (.int .i64 2) (signD [33, 61] 1 false)
def D3 : DataW Unit := D2.put (.int .i64 3) (signD [61, 126] 8 true)
def D4 : DataW Unit := D3.put (.int .i64 4) (signD [33, 126] 8 false)
theorem D4_is : D4 = .map [(.int .i64 1, signD [61] 1 true), (.int .i64 2, signD [33, 61] 1 false), (.int .i64 3, signD [61, 126] 8 true), (.int .i64 4, signD [33, 126] 8 false)] := by rfl

theorem keyI : Keyed Tryz.prog 3 := int_keyed Tryz.underlying3

theorem wpList_insert_own {H : Type} {P : Program} (w : World) {ops : Array Oper} {rest : List Oper} {o : Oper} {a : Act} {Q : Exit → Act → World → Prop}
    (hg : o.guard = none) (m x v : Operand) (t : TypeId) (hop : o.op = Op.insert t m x v)
    (k e : TypeId) (K : Keyed P k) (ht : P.underlying t = some (.map k e)) (R : Value → Option (DataW H × List MemPlace)) (b n : Nat) (D : DataW H)
    (hm : a.eval m = .map (some b)) (hown : w.ownsMap P k R b n D) (hn : n < maxLen) (key val : Value) (kl : Lit) (hx : a.eval x = key) (hv : a.eval v = val) (hkey : keyOf P k key = some kl)
    (d : DataW H) (ps : List MemPlace) (hval : R val = some (d, ps))
    (hK : ∀ w', w'.ownsMap P k R b (n + 1) (D.put kl d) → w.grownBy w' (some b) → wpList P ops Q rest (a.put o.dst undef) w') :
    wpList P ops Q (o :: rest) a w := by
  refine wpList_plain hg fun K' hK' => ?_
  obtain ⟨w', hrun, r1, r2⟩ := hown.update K ht hn hkey hval
  unfold Oper.wp
  simp [execOp, hop, hm, hx, hv, hrun, Result.andThen]
  exact hK' _ _ (hK w' r1 r2)

def Signs (w : World) (e : Ending) (w' : World) : Prop := e = .returned (.map (some w.heap.size)) ∧ w'.ownsMap Tryz.prog 3 signElem w.heap.size 4 D4 ∧ Below w.heap.size w w'

set_option maxRecDepth 100000 in
theorem signs_any (w : World) : Calls Tryz.prog 169 #[] w (Signs w) := by
  have hmm := @run_makeMap Tryz.prog
  go_enter Tryz.func169, Tryz.ntmps169
  go_wp2_with (first
    | (refine wpList_insert_own _ rfl _ _ _ 178 rfl 3 177 keyI Tryz.underlying178 signElem w.heap.size 3 _ rfl h3 (by unfold maxLen; omega) _ _ _ rfl rfl (keyOf_int_mk Tryz.underlying3 (by decide)) _ [] (signElem_mk _ _ _) ?_; intro w4 h4 g4)
    | (refine wpList_insert_own _ rfl _ _ _ 178 rfl 3 177 keyI Tryz.underlying178 signElem w.heap.size 2 _ rfl h2 (by unfold maxLen; omega) _ _ _ rfl rfl (keyOf_int_mk Tryz.underlying3 (by decide)) _ [] (signElem_mk _ _ _) ?_; intro w3 h3 g3)
    | (refine wpList_insert_own _ rfl _ _ _ 178 rfl 3 177 keyI Tryz.underlying178 signElem w.heap.size 1 _ rfl h1 (by unfold maxLen; omega) _ _ _ rfl rfl (keyOf_int_mk Tryz.underlying3 (by decide)) _ [] (signElem_mk _ _ _) ?_; intro w2 h2 g2)
    | (refine wpList_insert_own _ rfl _ _ _ 178 rfl 3 177 keyI Tryz.underlying178 signElem w.heap.size 0 (.map []) rfl (World.ownsMap_made _ _ _ _) (by unfold maxLen; omega) _ _ _ rfl rfl (keyOf_int_mk Tryz.underlying3 (by decide)) _ [] (signElem_mk _ _ _) ?_; intro w1 h1 g1))
  go_ret
  have hg := ((g1.trans g2).trans g3).trans g4
  exact ⟨rfl, h4, ((Below.refl _ _).alloc (Nat.le_refl _) _).grown hg (by simp) (fun k hk => by cases hk; exact Nat.le_refl _)⟩

theorem zero_sign (w : World) : (zeroValue 177).run Tryz.prog w = .ok (signV ⟨#[]⟩ 0 false) w := by kernel_rfl

def signVal (how : Int) : Value := match signC how with | some (t, n, b) => signV ⟨t.toArray⟩ n b | none => signV ⟨#[]⟩ 0 false
/-- 's, known := signs()[how]' -/
theorem look_sign {w : World} {b : Nat} (h : w.ownsMap Tryz.prog 3 signElem b 4 D4) (how : Int) (hw : (Lit.int .i64 how).wf = true) (c : Bool) :
    (Instr.lookup 178 (.map (some b)) (.int .i64 how) c).run Tryz.prog w = .ok (if c then .tuple #[signVal how, .bool (signC how).isSome] else signVal how) w := by
  have hk := keyOf_int_mk (P := Tryz.prog) Tryz.underlying3 hw
  have key : ∀ v ps, signElem v = some (D4.atKey (.int .i64 how) (signD [] 0 false), ps) → v = signVal how := by
    intro v ps hv
    obtain ⟨t, n, x, rfl, hz⟩ := signElem_inv hv
    simp only [Prod.mk.injEq] at hz
    have hz := hz.1
    rw [D4_is] at hz
    have done : ∀ (T : Bs) (N : Int) (X : Bool), signD t.data.toList n x = signD T N X → signV t n x = signV ⟨T.toArray⟩ N X := by
      intro T N X h
      simp only [signD, DataW.agg.injEq, List.cons.injEq, DataW.lit.injEq, Lit.string.injEq, Lit.int.injEq, Lit.bool.injEq, true_and, and_true] at h
      obtain ⟨h1, rfl, rfl⟩ := h
      have e : t = ⟨T.toArray⟩ := bytes_ext (by rw [h1])
      rw [e]
    unfold signVal
    rcases signC_cases how with ⟨rfl, e⟩ | ⟨rfl, e⟩ | ⟨rfl, e⟩ | ⟨rfl, e⟩ | ⟨h', e⟩ <;> rw [e]
    · exact done _ _ _ hz.symm
    · exact done _ _ _ hz.symm
    · exact done _ _ _ hz.symm
    · exact done _ _ _ hz.symm
    · refine done _ _ _ (hz.symm.trans ?_)
      have n1 : Lit.sameKey (.int .i64 1) (.int .i64 how) = false := decide_eq_false (by omega)
      have n2 : Lit.sameKey (.int .i64 2) (.int .i64 how) = false := decide_eq_false (by omega)
      have n3 : Lit.sameKey (.int .i64 3) (.int .i64 how) = false := decide_eq_false (by omega)
      have n4 : Lit.sameKey (.int .i64 4) (.int .i64 how) = false := decide_eq_false (by omega)
      simp [DataW.atKey, List.find?, n1, n2, n3, n4]
  have hhas : Maps.has D4 (.int .i64 how) = (signC how).isSome := by
    rw [D4_is, Maps.has_eq]
    rcases signC_cases how with ⟨rfl, e⟩ | ⟨rfl, e⟩ | ⟨rfl, e⟩ | ⟨rfl, e⟩ | ⟨h', e⟩ <;> rw [e]
    · rfl
    · rfl
    · rfl
    · rfl
    · have n1 : Lit.sameKey (.int .i64 1) (.int .i64 how) = false := decide_eq_false (by omega)
      have n2 : Lit.sameKey (.int .i64 2) (.int .i64 how) = false := decide_eq_false (by omega)
      have n3 : Lit.sameKey (.int .i64 3) (.int .i64 how) = false := decide_eq_false (by omega)
      have n4 : Lit.sameKey (.int .i64 4) (.int .i64 how) = false := decide_eq_false (by omega)
      simp [n1, n2, n3, n4]
  cases c with
  | true =>
    obtain ⟨v, ps, hrun, hv⟩ := h.look_ok keyI Tryz.underlying178 (zero_sign w) (signElem_mk _ _ _) hk
    rw [hrun, key v ps hv, hhas]
    rfl
  | false =>
    obtain ⟨v, ps, hrun, hv⟩ := h.lookup keyI Tryz.underlying178 (zero_sign w) (signElem_mk _ _ _) hk
    rw [hrun, key v ps hv]
    rfl
theorem look_sign2 {w : World} {b : Nat} (h : w.ownsMap Tryz.prog 3 signElem b 4 D4) (how : Int) (hw : (Lit.int .i64 how).wf = true) :
    (Instr.lookup 178 (.map (some b)) (.int .i64 how) true).run Tryz.prog w = .ok (.tuple #[signVal how, .bool (signC how).isSome]) w := look_sign h how hw true
theorem look_sign1 {w : World} {b : Nat} (h : w.ownsMap Tryz.prog 3 signElem b 4 D4) (how : Int) (hw : (Lit.int .i64 how).wf = true) :
    (Instr.lookup 178 (.map (some b)) (.int .i64 how) false).run Tryz.prog w = .ok (signVal how) w := look_sign h how hw false
theorem signVal_is (how : Int) : signVal how = .agg #[.string ⟨(signT how).toArray⟩, .int .i64 (mostC how), .bool (onesC how)] := by
  unfold signVal signT mostC onesC
  cases signC how with
  | none => rfl
  | some x => rfl
theorem run_sign0 (t : ByteArray) (n : Int) (b : Bool) (W : World) : (Instr.field 177 (.agg #[.string t, .int .i64 n, .bool b]) 0).run Tryz.prog W = .ok (.string t) W := by kernel_rfl
end Go.Proofs.YtmhekhilgllciaaGreat
/- Matchers in memory; the contract of matcher.Right. -/
namespace Go.Proofs.YtmhekhilgllciaaGreat
open Go.RowKit Go.Maps

/-- the value v reads as the matcher m -/
def HasMat (w : World) (v : Value) (m : Mat) : Prop :=
  ∃ a c, v = .agg #[.string m.name, .int .i64 m.how, .slice a m.words.length c] ∧ HasStrs w a c m.words ∧ m.name.size ≤ maxLen ∧ (Lit.int .i64 m.how).wf = true
theorem HasMat.call {w w' : World} {v : Value} {m : Mat} (h : HasMat w v m) (hb : Below w.heap.size w w') : HasMat w' v m := by
  obtain ⟨a, c, h1, h2, h3⟩ := h
  exact ⟨a, c, h1, h2.call hb, h3⟩

set_option maxHeartbeats 3200000 in
set_option maxRecDepth 100000 in
theorem mRight_any (v : Value) (m : Mat) (w : World) (h : HasMat w v m) : Calls Tryz.prog 127 #[v] w (BoolB (rightM m) w) := by
  obtain ⟨a, c, rfl, hW, hs, hwf⟩ := h
  have hsv := signVal_is m.how
  have e : rightM m = (knownC m.how && (nameC m.name.data.toList && (decide ((m.words.length : Int) ≤ mostC m.how) && (wordsC m.words && decide (1 ≤ m.words.length))))) := rightMr_is _ _ _ _
  have h2 := hW.2.1
  have h1 := hW.1
  unfold maxLen at h2
  have HN := Lib.hid (fun W => mName_any m.name W hs)
  have HS := Lib.hid (fun W (hb : Below w.heap.size w W) => rightWords_any a c m.words W (hW.call hb))
  have HL := Lib.hid (fun (W : World) (b : Nat) (hm : W.ownsMap Tryz.prog 3 signElem b 4 D4) => look_sign2 hm m.how hwf)
  rw [e]
  clear hW hs e hwf
  unfold knownC
  generalize (signC m.how).isSome = K at *
  generalize (signT m.how) = T at *
  generalize onesC m.how = X at *
  generalize mostC m.how = M at *
  rw [hsv] at HL
  obtain ⟨L, hL⟩ : ∃ L, decide ((m.words.length : Int) ≤ M) = L := ⟨_, rfl⟩
  obtain ⟨B, hB⟩ : ∃ B, (wordsC m.words && decide (1 ≤ m.words.length)) = B := ⟨_, rfl⟩
  rw [hL, hB]
  rw [hB] at HS
  have HLe := Lib.hid hL
  clear hsv hL hB
  go_enter Tryz.func127, Tryz.ntmps127
  go_upto_region 1 with fail
  have hblk := Blk.new w 97 #[.string m.name, .int .i64 m.how, .slice a m.words.length c]
  have hb0 : Below w.heap.size w (w.alloc (.cells #[.string m.name, .int .i64 m.how, .slice a m.words.length c] 97)) := (Below.refl _ _).alloc (Nat.le_refl _) _
  generalize w.alloc (.cells #[.string m.name, .int .i64 m.how, .slice a m.words.length c] 97) = wx at *
  have HB := Lib.hid hblk
  have HB0 := Lib.hid hb0
  clear hblk hb0
  go_cut [3, 4] (fun p k wy => ∃ g, p = .pointer (some ⟨g, 0, none⟩) ∧ k = .bool K ∧ Blk wy g 177 #[.string ⟨T.toArray⟩, .int .i64 M, .bool X] ∧ Blk wy w.heap.size 97 #[.string m.name, .int .i64 m.how, .slice a m.words.length c] ∧ Below w.heap.size w wy)
  case first =>
    have c1 := HB.out.cells3.2.1
    have c1a := fun o => (HB.out.alloc o).drew.cells3.2.1
    have hbn := fun x y z => (Blk.new wx 177 #[x, y, z]).drew
    go_region_with (go_at_call 169; (with_reducible refine (signs_any _).mono ?_); rintro e w2 ⟨rfl, hm, hb2⟩; first
      | (have c1' := cellLater hb2 c1; have c1'' := fun o => cellLater ((Below.refl _ _).alloc (Nat.le_refl _) o) c1'; have hlk := HL.out w2 wx.heap.size hm; have hlk2 := fun o => HL.out (w2.alloc o) wx.heap.size (hm.alloc o))
      | (have c1' := cellLater hb2 (c1a _); have hk3 := (hbn _ _ _).call hb2; have ⟨d0, d1, d2⟩ := hk3.cells3; have f0 := hk3.frozen 0; have f1 := hk3.frozen 1; have f2 := hk3.frozen 2; have hlk := HL.out w2 (wx.heap.size + 1) (by simpa using hm)))
    all_goals
      go_wp2_with fail
      go_meet
      first
      | exact ⟨_, rfl, rfl, Blk.new _ _ _, (HB.out.drew.call hb2).alloc _, (bthen HB0.out.drew hb2).alloc (bthen HB0.out.drew hb2).size _⟩
      | exact ⟨_, rfl, rfl, hk3.set3 _ _ _, ((HB.out.alloc _).drew.call hb2).set3O (Nat.ne_of_lt HB.out.lt) _ _ _, below_set3 (bthen (HB0.out.alloc HB0.out.size _).drew hb2) HB0.out.size _ _ _⟩
  case rest =>
    obtain ⟨g, rfl, rfl, hsg, hbx, hbw⟩ := hcut
    obtain ⟨c0, c1, c2⟩ := hbx.cells3
    obtain ⟨d0, d1, d2⟩ := hsg.cells3
    have HX := Lib.hid hbx
    have HG := Lib.hid hsg
    clear HB HB0 HL hbx hsg
    cases K with
    | false =>
      go_wp2_with fail
      go_ret
      exact ⟨rfl, hbw⟩
    | true =>
      generalize nameC m.name.data.toList = A at *
      cases A with
      | false =>
        go_wp2_with (go_at_call 190; refine (HN.out _).mono ?_; rintro e w2 ⟨rfl, hb2⟩)
        go_ret
        exact ⟨rfl, bthen hbw hb2⟩
      | true =>
        have hkx := fun W hb => (HX.out.call (w1 := W) hb).cells3
        have hkg := fun W hb => (HG.out.call (w1 := W) hb).cells3
        have HKX := Lib.hid hkx
        have HKG := Lib.hid hkg
        clear hkx hkg
        cases L with
        | true =>
          have hM := of_decide_eq_true HLe.out
          cases B with
          | false =>
            go_wp2_with (first
              | (go_at_call 190; refine (HN.out _).mono ?_; rintro e w2 ⟨rfl, hb2⟩; obtain ⟨x0, x1, x2⟩ := HKX.out _ hb2; obtain ⟨y0, y1, y2⟩ := HKG.out _ hb2)
              | (go_at_call 191; refine (HS.out _ (bthen hbw hb2)).mono ?_; rintro e w3 ⟨rfl, rfl⟩))
            go_ret
            exact ⟨rfl, bthen hbw hb2⟩
          | true =>
            go_wp2_with (first
              | (go_at_call 190; refine (HN.out _).mono ?_; rintro e w2 ⟨rfl, hb2⟩; obtain ⟨x0, x1, x2⟩ := HKX.out _ hb2; obtain ⟨y0, y1, y2⟩ := HKG.out _ hb2)
              | (go_at_call 191; refine (HS.out _ (bthen hbw hb2)).mono ?_; rintro e w3 ⟨rfl, rfl⟩))
            go_ret
            exact ⟨rfl, bthen hbw hb2⟩
        | false =>
          have hM := HLe.out
          have hM2 := of_decide_eq_false HLe.out
          go_wp2_with (first
            | (go_at_call 190; refine (HN.out _).mono ?_; rintro e w2 ⟨rfl, hb2⟩; obtain ⟨x0, x1, x2⟩ := HKX.out _ hb2; obtain ⟨y0, y1, y2⟩ := HKG.out _ hb2)
            | (go_at_call 191; refine (HS.out _ (bthen hbw hb2)).mono ?_; rintro e w3 ⟨rfl, rfl⟩))
          go_ret
          exact ⟨rfl, bthen hbw hb2⟩
end Go.Proofs.YtmhekhilgllciaaGreat
/- Rows of matchers in memory, and whether they hold. -/
namespace Go.Proofs.YtmhekhilgllciaaGreat
open Go.RowKit Go.Maps

def matCells (a : Option Addr) (c : Nat) (m : Mat) : Array Value := #[.string m.name, .int .i64 m.how, .slice a m.words.length c]
theorem Blk.cells1 {w : World} {g : Nat} {t : TypeId} {x : Value} (h : Blk w g t #[x]) : w.cell? ⟨g, 0, none⟩ = some x := h.cell 0
theorem matCells3 {w : World} {g : Nat} {t : TypeId} {a : Option Addr} {c : Nat} {m : Mat} (h : Blk w g t (matCells a c m)) : w.cell? ⟨g, 0, none⟩ = some (.string m.name) ∧ w.cell? ⟨g, 1, none⟩ = some (.int .i64 m.how) ∧ w.cell? ⟨g, 2, none⟩ = some (.slice a m.words.length c) := Blk.cells3 h

/-- the slice '.slice a ms.length c' reads as the matchers ms -/
def HasMats (w : World) (a : Option Addr) (c : Nat) (ms : List Mat) : Prop :=
  ms.length ≤ c ∧ c ≤ maxLen ∧
    (ms = [] ∨ ∃ b off, a = some ⟨b, off, none⟩ ∧ b < w.heap.size ∧ ∀ i (h : i < ms.length), ∃ x y,
      (w.cell? ⟨b, off + i * 3, none⟩ = some (.string ms[i].name) ∧ w.cell? ⟨b, off + i * 3 + 1, none⟩ = some (.int .i64 ms[i].how) ∧ w.cell? ⟨b, off + i * 3 + 2, none⟩ = some (.slice x ms[i].words.length y)) ∧
        HasStrs w x y ms[i].words ∧ ms[i].name.size ≤ maxLen ∧ (Lit.int .i64 ms[i].how).wf = true)
theorem HasMats.call {w w' : World} {a : Option Addr} {c : Nat} {ms : List Mat} (h : HasMats w a c ms) (hb : Below w.heap.size w w') : HasMats w' a c ms := by
  obtain ⟨h1, h2, h4⟩ := h
  refine ⟨h1, h2, ?_⟩
  rcases h4 with h4 | ⟨b, off, rfl, hlt, hc⟩
  · exact .inl h4
  · refine .inr ⟨b, off, rfl, Nat.lt_of_lt_of_le hlt hb.size, fun i hi => ?_⟩
    obtain ⟨x, y, ⟨g0, g1, g2⟩, g3, g4⟩ := hc i hi
    exact ⟨x, y, ⟨cellLater hb g0, cellLater hb g1, cellLater hb g2⟩, g3.call hb, g4⟩
theorem HasMats.nil (w : World) (a : Option Addr) (c : Nat) (hc : c ≤ maxLen) : HasMats w a c [] := ⟨Nat.zero_le _, hc, .inl rfl⟩

theorem all_end {α : Type} (p : α → Bool) (l : List α) : ∃ J, J ≤ l.length ∧ (∀ k (_h : k < J) (h2 : k < l.length), p l[k] = true) ∧ (J = l.length ∧ l.all p = true ∨ ∃ hj : J < l.length, p l[J] = false ∧ l.all p = false) := by
  cases h : l.all p with
  | true =>
    rw [List.all_eq_true] at h
    exact ⟨l.length, Nat.le_refl _, fun k _ h2 => h _ (List.getElem_mem h2), .inl ⟨rfl, rfl⟩⟩
  | false =>
    obtain ⟨j, hj, hb, ha⟩ := first_not (fun i => if hi : i < l.length then p l[i] else true) l.length (fun hall => by
      have : l.all p = true := by
        rw [List.all_eq_true]
        intro x hx
        obtain ⟨i, hi, rfl⟩ := List.getElem_of_mem hx
        have := hall i hi
        simpa [hi] using this
      rw [h] at this; cases this)
    refine ⟨j, by omega, fun k hk h2 => ?_, .inr ⟨hj, by simpa [hj] using hb, rfl⟩⟩
    have := ha k hk
    simpa [h2] using this

def holdsL (ls : List Lab) (ms : List Mat) : Bool × Int :=
  if rightC ls = true then (if ms.all rightM = true then (ms.all (fun m => holdsM (getL ls m.name) m), 0) else (false, 1)) else (false, 1)
def HoldsPost (ls : List Lab) (ms : List Mat) (w : World) (e : Ending) (w' : World) : Prop := e = .returned (.tuple #[.bool (holdsL ls ms).1, .int .i64 (holdsL ls ms).2]) ∧ Below w.heap.size w w'

end Go.Proofs.YtmhekhilgllciaaGreat
