/- The contracts of what asks words and values of blocks: block.isWordByte, rightWord, rightValue. -/
import Derived.Test.YtdlhmjdjoadioabGreatDoorMg1
import Derived.Test.YtdlhmjdjoadioabGreatDoorMg3
import Derived.WalkLawsBesides
import Derived.IntWalk
import Derived.Deep.QuietTactic
import Derived.BigQuiet
namespace Go.Proofs.YtdlhmjdjoadioabGreatDoor
open Go.RowKit

theorem bWordByte_any (c : UInt8) (w : World) : Calls Tryz.prog 106 #[.int .u8 (c.toNat : Int)] w (BoolS (bwB c) w) := by
  have e : bwB c = decide (97 ≤ c.toNat ∧ c.toNat ≤ 122 ∨ 48 ≤ c.toNat ∧ c.toNat ≤ 57 ∨ c.toNat = 95) := rfl
  rw [e]
  clear e
  generalize c.toNat = n
  by_cases e1 : n = 95
  · subst e1
    go_enter Tryz.func106, Tryz.ntmps106
    go_wp2
    go_ret
    exact ⟨rfl, rfl⟩
  have f1 : ((n : Int) == 95) = false := beq_eq_false_iff_ne.2 (by omega)
  by_cases h1 : 97 ≤ n <;> by_cases h2 : n ≤ 122 <;> by_cases h5 : 48 ≤ n <;> by_cases h6 : n ≤ 57 <;> (try omega)
  all_goals
    go_enter Tryz.func106, Tryz.ntmps106
    go_wp2
    go_ret
    exact ⟨by first | (simp [h1, h2, h5, h6, e1]; done) | (simp [h1, h2, h5, h6, e1]; omega), rfl⟩

set_option maxHeartbeats 800000 in
theorem bWord_any (s : ByteArray) (w : World) (hs : s.size ≤ maxLen) : Calls Tryz.prog 89 #[.string s] w (BoolS (bwC s.data.toList) w) := by
  unfold maxLen at hs
  have hl := lenB s
  by_cases h1 : 1 ≤ s.size
  case neg =>
    have hR : bwC s.data.toList = false := by unfold bwC; rw [hl]; simp [h1]
    rw [hR]
    clear hR hl
    go_enter Tryz.func89, Tryz.ntmps89
    go_wp2
    go_ret
    exact ⟨rfl, rfl⟩
  by_cases h2 : s.size ≤ 64
  case neg =>
    have hR : bwC s.data.toList = false := by unfold bwC; rw [hl]; simp [h2]
    rw [hR]
    clear hR hl
    go_enter Tryz.func89, Tryz.ntmps89
    go_wp2
    go_ret
    exact ⟨rfl, rfl⟩
  by_cases hall : s.data.toList.all bwB = true
  · have hR : bwC s.data.toList = true := by unfold bwC; rw [hl, hall]; simp [h1, h2]
    have HA := Lib.hid (bytesAll hall)
    rw [hR]
    clear hR hl hall
    go_enter Tryz.func89, Tryz.ntmps89
    go_wp2
    go_loop [3] (fun i => ∃ k : Nat, k ≤ s.size ∧ i = .int .i64 k) (fun i => s.size - (intOf i).toNat)
    case atStart => exact ⟨0, Nat.zero_le _, rfl⟩
    case round =>
      obtain ⟨k, hk, rfl⟩ := hrel
      by_cases hkl : k < s.size
      · have hw := HA.out k hkl
        go_wp2_with (go_at_call 106; refine (bWordByte_any _ _).mono ?_; rintro e w2 ⟨rfl, rfl⟩)
        go_round
        case rel => exact ⟨k + 1, by omega, by go_num⟩
        case measure => simp [intOf]; omega
      · go_wp2
        go_ret
        exact ⟨rfl, rfl⟩
  · obtain ⟨j, hj, hbad, hok⟩ := bytesNot s hall
    have hR : bwC s.data.toList = false := by unfold bwC; simp only [Bool.not_eq_true] at hall; rw [hall]; simp
    have HA := Lib.hid hok
    have HB := Lib.hid hbad
    rw [hR]
    clear hR hl hall hok hbad
    go_enter Tryz.func89, Tryz.ntmps89
    go_wp2
    go_loop [3] (fun i => ∃ k : Nat, k ≤ j ∧ i = .int .i64 k) (fun i => s.size - (intOf i).toNat)
    case atStart => exact ⟨0, Nat.zero_le _, rfl⟩
    case round =>
      obtain ⟨k, hk, rfl⟩ := hrel
      by_cases hkl : k = j
      · subst hkl
        have hb := HB.out
        go_wp2_with (go_at_call 106; refine (bWordByte_any _ _).mono ?_; rintro e w2 ⟨rfl, rfl⟩)
        go_ret
        exact ⟨rfl, rfl⟩
      · have hw := HA.out k (by omega)
        have hkz : k < s.size := by omega
        go_wp2_with (go_at_call 106; refine (bWordByte_any _ _).mono ?_; rintro e w2 ⟨rfl, rfl⟩)
        go_round
        case rel => exact ⟨k + 1, by omega, by go_num⟩
        case measure => simp [intOf]; omega

theorem bvB_iff (c : UInt8) : bvB c = true ↔ 32 ≤ c.toNat ∧ c.toNat ≤ 126 ∧ c.toNat ≠ 59 := by simp [bvB]
theorem nat_beq_f {n k : Nat} (h : n ≠ k) : ((n : Int) == (k : Int)) = false := beq_eq_false_iff_ne.2 (by omega)
theorem nat_beq_t {n k : Nat} (h : n = k) : ((n : Int) == (k : Int)) = true := beq_iff_eq.2 (by omega)

set_option maxHeartbeats 1600000 in
theorem bValue_any (s : ByteArray) (w : World) (hs : s.size ≤ maxLen) : Calls Tryz.prog 91 #[.string s] w (BoolS (bvC s.data.toList) w) := by
  unfold maxLen at hs
  have hl := lenB s
  by_cases h1 : 1 ≤ s.size
  case neg =>
    have hR : bvC s.data.toList = false := by unfold bvC; rw [hl]; simp [h1]
    rw [hR]
    clear hR hl
    go_enter Tryz.func91, Tryz.ntmps91
    go_wp2
    go_ret
    exact ⟨rfl, rfl⟩
  by_cases h2 : s.size ≤ 200
  case neg =>
    have hR : bvC s.data.toList = false := by unfold bvC; rw [hl]; simp [h2]
    rw [hR]
    clear hR hl
    go_enter Tryz.func91, Tryz.ntmps91
    go_wp2
    go_ret
    exact ⟨rfl, rfl⟩
  have h00 : 0 < s.size := by omega
  have hsz : s.size - 1 < s.size := by omega
  have hE : bvE s.data.toList = (!decide ((s[0]'h00).toNat = 32) && !decide ((s[s.size - 1]'hsz).toNat = 32)) := by
    unfold bvE
    rw [hl, byteD s 0 (by omega), byteD s (s.size - 1) (by omega)]
  have q1 : IntKind.i64.wrap ((s.size : Int) - 1) = (s.size : Int) - 1 := IntWalk.i64_in _ (by omega)
  have q2 : ((s.size : Int) - 1).toNat = s.size - 1 := by omega
  have q3 : (0 : Int) ≤ (s.size : Int) - 1 := by omega
  by_cases hf : (s[0]'h00).toNat = 32
  · have hR : bvC s.data.toList = false := by unfold bvC; rw [hE]; simp [hf]
    have t1 : (((s[0]'h00).toNat : Int) == 32) = true := nat_beq_t hf
    rw [hR]
    clear hR hl hE hf
    go_enter Tryz.func91, Tryz.ntmps91
    go_wp2
    go_ret
    exact ⟨rfl, rfl⟩
  have t1 : (((s[0]'h00).toNat : Int) == 32) = false := nat_beq_f hf
  by_cases hg : (s[s.size - 1]'hsz).toNat = 32
  · have hR : bvC s.data.toList = false := by unfold bvC; rw [hE]; simp [hg]
    have t2 : (((s[s.size - 1]'hsz).toNat : Int) == 32) = true := nat_beq_t hg
    rw [hR]
    clear hR hl hE hf hg
    go_enter Tryz.func91, Tryz.ntmps91
    go_wp2
    go_ret
    exact ⟨rfl, rfl⟩
  have t2 : (((s[s.size - 1]'hsz).toNat : Int) == 32) = false := nat_beq_f hg
  by_cases hall : s.data.toList.all bvB = true
  · have hR : bvC s.data.toList = true := by unfold bvC; rw [hl, hall, hE]; simp [h1, h2, hf, hg]
    have HA := Lib.hid (bytesAll hall)
    rw [hR]
    clear hR hl hall hE hf hg
    go_enter Tryz.func91, Tryz.ntmps91
    go_wp2
    go_loop [3] (fun i => ∃ k : Nat, k ≤ s.size ∧ i = .int .i64 k) (fun i => s.size - (intOf i).toNat)
    case atStart => exact ⟨0, Nat.zero_le _, rfl⟩
    case round =>
      obtain ⟨k, hk, rfl⟩ := hrel
      by_cases hkl : k < s.size
      · obtain ⟨a1, a2, a3⟩ := (bvB_iff _).1 (HA.out k hkl)
        have t3 : ((s[k].toNat : Int) == 59) = false := nat_beq_f a3
        clear a3
        go_wp2
        go_round
        case rel => exact ⟨k + 1, by omega, by go_num⟩
        case measure => simp [intOf]; omega
      · go_wp2
        go_ret
        exact ⟨rfl, rfl⟩
  · obtain ⟨j, hj, hbad, hok⟩ := bytesNot s hall
    have hR : bvC s.data.toList = false := by unfold bvC; simp only [Bool.not_eq_true] at hall; rw [hall]; simp
    have HA := Lib.hid hok
    have HB := Lib.hid hbad
    rw [hR]
    clear hR hl hall hok hbad hE hf hg
    go_enter Tryz.func91, Tryz.ntmps91
    go_wp2
    go_loop [3] (fun i => ∃ k : Nat, k ≤ j ∧ i = .int .i64 k) (fun i => s.size - (intOf i).toNat)
    case atStart => exact ⟨0, Nat.zero_le _, rfl⟩
    case round =>
      obtain ⟨k, hk, rfl⟩ := hrel
      by_cases hkl : k = j
      · subst hkl
        have hb := HB.out
        rw [← Bool.not_eq_true, bvB_iff] at hb
        by_cases a1 : 32 ≤ s[k].toNat
        · by_cases a2 : s[k].toNat ≤ 126
          · have t3 : ((s[k].toNat : Int) == 59) = true := beq_iff_eq.2 (by omega)
            clear hb
            go_wp2
            go_ret
            exact ⟨rfl, rfl⟩
          · clear hb
            go_wp2
            go_ret
            exact ⟨rfl, rfl⟩
        · clear hb
          go_wp2
          go_ret
          exact ⟨rfl, rfl⟩
      · obtain ⟨a1, a2, a3⟩ := (bvB_iff _).1 (HA.out k (by omega))
        have hkz : k < s.size := by omega
        have t3 : (((s[k]'hkz).toNat : Int) == 59) = false := nat_beq_f a3
        clear a3
        go_wp2
        go_round
        case rel => exact ⟨k + 1, by omega, by go_num⟩
        case measure => simp [intOf]; omega
end Go.Proofs.YtdlhmjdjoadioabGreatDoor
/- The contracts of the library's Index and Contains of rows of texts. -/
namespace Go.Proofs.YtdlhmjdjoadioabGreatDoor
open Go.RowKit

/-- where a walk over texts that seeks one ends -/
theorem seek_end (ss : List ByteArray) (x : ByteArray) : ∃ J, J ≤ ss.length ∧ (∀ k (_h : k < J) (h2 : k < ss.length), (ss[k].toList == x.toList) = false ∧ (x.toList == ss[k].toList) = false) ∧
    (J = ss.length ∧ keyI ss x = none ∧ memB x ss = false ∨ ∃ hj : J < ss.length, (ss[J].toList == x.toList) = true ∧ (x.toList == ss[J].toList) = true ∧ keyI ss x = some J ∧ memB x ss = true) := by
  cases h : keyI ss x with
  | none =>
    have h' : ∀ y ∈ ss, decide (y = x) = false := by simpa [keyI] using h
    refine ⟨ss.length, Nat.le_refl _, fun k _ h2 => ?_, .inl ⟨rfl, rfl, ?_⟩⟩
    · have := h' _ (List.getElem_mem h2)
      rw [strEq, strEq]
      exact ⟨this, by rw [decide_eq_false_iff_not] at this ⊢; exact fun e => this e.symm⟩
    · rw [← Bool.not_eq_true, memB_iff]
      intro hm
      have := h' _ hm
      simp at this
  | some J =>
    obtain ⟨hj, h1, h2⟩ := List.findIdx?_eq_some_iff_getElem.1 h
    have h1' : ss[J] = x := by simpa using h1
    refine ⟨J, Nat.le_of_lt hj, fun k hk hk2 => ?_, .inr ⟨hj, ?_, ?_, rfl, ?_⟩⟩
    · have := h2 k hk
      have h3 : ¬ ss[k] = x := by simpa using this
      rw [strEq, strEq]
      exact ⟨decide_eq_false h3, decide_eq_false fun e => h3 e.symm⟩
    · rw [strEq]; exact decide_eq_true h1'
    · rw [strEq]; exact decide_eq_true h1'.symm
    · rw [memB_iff, ← h1']; exact List.getElem_mem hj

/-- a place that is found, or none -/
def idxI (o : Option Nat) : Int := match o with | none => -1 | some i => (i : Int)
def IntS (n : Int) (w : World) (e : Ending) (w' : World) : Prop := e = .returned (.int .i64 n) ∧ w = w'

set_option maxHeartbeats 1600000 in
theorem index_any (a : Option Addr) (c : Nat) (ss : List ByteArray) (x : ByteArray) (w : World) (h : HasStrs w a c ss) : Calls Tryz.prog 107 #[.slice a ss.length c, .string x] w (IntS (idxI (keyI ss x)) w) := by
  obtain ⟨h1, h2, h3, h4⟩ := h
  unfold maxLen at h2
  rcases h4 with rfl | ⟨b, off, rfl, hb, hcell⟩
  · go_enter Tryz.func107, Tryz.ntmps107
    go_wp2
    refine wp_loop_rounds 1 ?_
    rw [rounds_succ]
    go_wp2
    go_ret
    exact ⟨rfl, rfl⟩
  obtain ⟨J, hJ, hok, hend⟩ := seek_end ss x
  have HC := Lib.hid hcell
  have HOK := Lib.hid hok
  have HE := Lib.hid hend
  clear hcell h3 hok hend
  go_enter Tryz.func107, Tryz.ntmps107
  go_wp2
  go_loop [8, 5] (fun i _ => ∃ k : Nat, k ≤ J ∧ i = .int .i64 k) (fun i _ => ss.length - (intOf i).toNat)
  case atStart => exact ⟨0, Nat.zero_le _, rfl⟩
  case round =>
    obtain ⟨k, hk, rfl⟩ := hrel
    by_cases hkl : k < ss.length
    · have hc1 := HC.out k hkl
      by_cases hkJ : k = J
      · rcases HE.out with ⟨he, _⟩ | ⟨hj, hq1, hq2, hq3, _⟩
        · omega
        · subst hkJ
          have H3 := Lib.hid hq3
          clear hq3
          go_wp2
          go_ret
          exact ⟨by rw [H3.out]; rfl, rfl⟩
      · obtain ⟨q1, q2⟩ := HOK.out k (by omega) hkl
        go_wp2
        go_round
        case rel => exact ⟨k + 1, by omega, by go_num⟩
        case measure => simp [intOf]; omega
    · rcases HE.out with ⟨_, hq, _⟩ | ⟨hj, _⟩
      · have H3 := Lib.hid hq
        clear hq
        go_wp2
        go_ret
        exact ⟨by rw [H3.out]; rfl, rfl⟩
      · omega

theorem memB_key (ss : List ByteArray) (x : ByteArray) : memB x ss = !decide (keyI ss x = none) ∧ (keyI ss x = none ∨ ∃ i, i < ss.length ∧ keyI ss x = some i) := by
  obtain ⟨J, hJ, _, hend⟩ := seek_end ss x
  rcases hend with ⟨_, h1, h2⟩ | ⟨hj, _, _, h1, h2⟩
  · exact ⟨by rw [h1, h2]; rfl, .inl h1⟩
  · exact ⟨by rw [h1, h2]; rfl, .inr ⟨J, hj, h1⟩⟩

theorem contains_any (a : Option Addr) (c : Nat) (ss : List ByteArray) (x : ByteArray) (w : World) (h : HasStrs w a c ss) : Calls Tryz.prog 90 #[.slice a ss.length c, .string x] w (BoolS (memB x ss) w) := by
  have hi := index_any a c ss x w h
  obtain ⟨h2, h1 | ⟨i, _, h1⟩⟩ := memB_key ss x
  · rw [h2, h1]
    rw [h1] at hi
    have HI := Lib.hid hi
    clear hi h1 h2 h
    go_enter Tryz.func90, Tryz.ntmps90
    go_wp2_with (go_at_call 107; refine HI.out.mono ?_; rintro e w2 ⟨rfl, rfl⟩)
    go_ret
    exact ⟨rfl, rfl⟩
  · rw [h2, h1]
    rw [h1] at hi
    have HI := Lib.hid hi
    clear hi h1 h2 h
    go_enter Tryz.func90, Tryz.ntmps90
    go_wp2_with (go_at_call 107; refine HI.out.mono ?_; rintro e w2 ⟨rfl, rfl⟩)
    go_ret
    exact ⟨by simp [idxI], rfl⟩
end Go.Proofs.YtdlhmjdjoadioabGreatDoor
