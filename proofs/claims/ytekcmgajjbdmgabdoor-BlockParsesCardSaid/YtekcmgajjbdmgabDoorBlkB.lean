/- The contracts of the document's own Word, Value and has of layer 6, and of the library's Index and Contains of rows of texts. -/
import Derived.Test.YtekcmgajjbdmgabDoorBlkA
import Derived.Test.YtekcmgajjbdmgabDoorStrs
import Derived.Deep.QuietTactic
import Derived.BigQuiet
namespace Go.Proofs.YtekcmgajjbdmgabDoor
open Go.RowKit

set_option maxHeartbeats 3200000 in
theorem rbWord_any (s : ByteArray) (w : World) (hs : s.size ≤ maxLen) : Calls Tryd.prog 39 #[.string s] w (BoolS (bwC s.data.toList) w) := by
  unfold maxLen at hs
  have hl := lenB s
  by_cases hall : s.data.toList.all bwB = true
  · have hR : bwC s.data.toList = (decide (1 ≤ s.size) && decide (s.size ≤ 64)) := by unfold bwC; rw [hl, hall]; simp
    have HA := Lib.hid (bytesAll hall)
    rw [hR]
    clear hR hl hall
    by_cases h1 : 1 ≤ s.size <;> by_cases h2 : s.size ≤ 64 <;> (try omega)
    all_goals
      go_enter Tryd.func39, Tryd.ntmps39
      go_wp2
      go_loop [3, 4] (fun i _ => ∃ k : Nat, k ≤ s.size ∧ i = .int .i64 k) (fun i _ => s.size - (intOf i).toNat)
      case atStart => exact ⟨0, Nat.zero_le _, rfl⟩
      case round =>
        obtain ⟨k, hk, rfl⟩ := hrel
        by_cases hkl : k < s.size
        · have hw := HA.out k hkl
          obtain ⟨n, hn⟩ : ∃ n, s[k].toNat = n := ⟨_, rfl⟩
          simp only [bwB, decide_eq_true_eq] at hw
          rw [hn] at hw
          by_cases a1 : 97 ≤ n <;> by_cases a2 : n ≤ 122 <;> by_cases a5 : 48 ≤ n <;> by_cases a6 : n ≤ 57 <;> (try omega)
          all_goals first
            | (clear hw
               go_wp2
               go_round
               case rel => exact ⟨k + 1, by omega, by go_num⟩
               case measure => simp [intOf]; omega
               done)
            | (have h : n = 95 := by omega
               have f1 : ((n : Int) != 95) = false := by rw [h]; rfl
               clear h hw
               go_wp2
               go_round
               case rel => exact ⟨k + 1, by omega, by go_num⟩
               case measure => simp [intOf]; omega)
        · go_wp2
          go_ret
          exact ⟨by first | (simp [h1, h2]; done) | (simp [h1, h2]; omega), rfl⟩
  · obtain ⟨j, hj, hbad, hok⟩ := bytesNot s hall
    have hR : bwC s.data.toList = false := by unfold bwC; simp only [Bool.not_eq_true] at hall; rw [hall]; simp
    have HA := Lib.hid hok
    have HB := Lib.hid hbad
    rw [hR]
    clear hR hl hall hok hbad
    go_enter Tryd.func39, Tryd.ntmps39
    go_wp2
    go_loop [3, 4] (fun i _ => ∃ k : Nat, k ≤ j ∧ i = .int .i64 k) (fun i _ => s.size - (intOf i).toNat)
    case atStart => exact ⟨0, Nat.zero_le _, rfl⟩
    case round =>
      obtain ⟨k, hk, rfl⟩ := hrel
      by_cases hkl : k = j
      · subst hkl
        have hb := HB.out
        obtain ⟨n, hn⟩ : ∃ n, s[k].toNat = n := ⟨_, rfl⟩
        simp only [bwB, decide_eq_false_iff_not] at hb
        rw [hn] at hb
        have f1 : ((n : Int) != 95) = true := by rw [bne_iff_ne]; omega
        by_cases a1 : 97 ≤ n <;> by_cases a2 : n ≤ 122 <;> by_cases a5 : 48 ≤ n <;> by_cases a6 : n ≤ 57 <;> (try omega)
        all_goals
          clear hb
          go_wp2
          go_ret
          exact ⟨rfl, rfl⟩
      · have hw := HA.out k (by omega)
        have hkz : k < s.size := by omega
        obtain ⟨n, hn⟩ : ∃ n, (s[k]'hkz).toNat = n := ⟨_, rfl⟩
        simp only [bwB, decide_eq_true_eq] at hw
        rw [hn] at hw
        by_cases a1 : 97 ≤ n <;> by_cases a2 : n ≤ 122 <;> by_cases a5 : 48 ≤ n <;> by_cases a6 : n ≤ 57 <;> (try omega)
        all_goals first
          | (clear hw
             go_wp2
             go_round
             case rel => exact ⟨k + 1, by omega, by go_num⟩
             case measure => simp [intOf]; omega
             done)
          | (have h : n = 95 := by omega
             have f1 : ((n : Int) != 95) = false := by rw [h]; rfl
             clear h hw
             go_wp2
             go_round
             case rel => exact ⟨k + 1, by omega, by go_num⟩
             case measure => simp [intOf]; omega)

set_option maxHeartbeats 3200000 in
theorem rbValue_any (s : ByteArray) (w : World) (hs : s.size ≤ maxLen) : Calls Tryd.prog 72 #[.string s] w (BoolS (bvC s.data.toList) w) := by
  unfold maxLen at hs
  have hl := lenB s
  by_cases hall : s.data.toList.all bvB = true
  · have HA := Lib.hid (bytesAll hall)
    by_cases h1 : 1 ≤ s.size
    case neg =>
      have hR : bvC s.data.toList = false := by unfold bvC; rw [hl]; simp [h1]
      have hz : s.size = 0 := by omega
      rw [hR]
      clear hR hl hall
      go_enter Tryd.func72, Tryd.ntmps72
      go_wp2
      refine wp_loop_rounds 1 ?_
      rw [rounds_succ]
      go_wp2
      go_ret
      exact ⟨rfl, rfl⟩
    have h00 : 0 < s.size := by omega
    have hsz : s.size - 1 < s.size := by omega
    have hE : bvE s.data.toList = (!decide ((s[0]'h00).toNat = 32) && !decide ((s[s.size - 1]'hsz).toNat = 32)) := by
      unfold bvE
      rw [hl, byteD s 0 (by omega), byteD s (s.size - 1) (by omega)]
    have hR : bvC s.data.toList = (decide (s.size ≤ 200) && (!decide ((s[0]'h00).toNat = 32) && !decide ((s[s.size - 1]'hsz).toNat = 32))) := by unfold bvC; rw [hl, hall, hE]; simp [h1]
    have q1 : IntKind.i64.wrap ((s.size : Int) - 1) = (s.size : Int) - 1 := IntWalk.i64_in _ (by omega)
    have q2 : ((s.size : Int) - 1).toNat = s.size - 1 := by omega
    have q3 : (0 : Int) ≤ (s.size : Int) - 1 := by omega
    rw [hR]
    clear hR hl hall hE
    have neD : ∀ n : Nat, ((n : Int) != 32) = !decide (n = 32) := fun n => by
      by_cases h : n = 32
      · rw [h]; rfl
      · rw [decide_eq_false h]; rw [bne_iff_ne.2 (by omega)]; rfl
    have t1 := neD (s[0]'h00).toNat
    have t2 := neD (s[s.size - 1]'hsz).toNat
    obtain ⟨A, hA⟩ : ∃ A, decide ((s[0]'h00).toNat = 32) = A := ⟨_, rfl⟩
    obtain ⟨B, hB⟩ : ∃ B, decide ((s[s.size - 1]'hsz).toNat = 32) = B := ⟨_, rfl⟩
    rw [hA] at t1 ⊢
    rw [hB] at t2 ⊢
    clear hA hB neD
    by_cases h2 : s.size ≤ 200 <;> cases A <;> cases B
    all_goals
      simp only [Bool.not_true, Bool.not_false] at t1 t2
      go_enter Tryd.func72, Tryd.ntmps72
      go_wp2
      go_loop [3] (fun i => ∃ k : Nat, k ≤ s.size ∧ i = .int .i64 k) (fun i => s.size - (intOf i).toNat)
      case atStart => exact ⟨0, Nat.zero_le _, rfl⟩
      case round =>
        obtain ⟨k, hk, rfl⟩ := hrel
        by_cases hkl : k < s.size
        · obtain ⟨a1, a2, a3⟩ := (bvB_iff _).1 (HA.out k hkl)
          have t3 : ((s[k].toNat : Int) == 59) = false := nat_beq_f a3
          clear a3
          go_wp2
          go_round
          case rel => exact ⟨k + 1, by omega, by go_num⟩
          case measure => simp [intOf]; omega
        · go_wp2
          go_ret
          exact ⟨by first | (simp [h2]; done) | (simp [h2]; omega), rfl⟩
  · obtain ⟨j, hj, hbad, hok⟩ := bytesNot s hall
    have hR : bvC s.data.toList = false := by unfold bvC; simp only [Bool.not_eq_true] at hall; rw [hall]; simp
    have HA := Lib.hid hok
    have HB := Lib.hid hbad
    rw [hR]
    clear hR hl hall hok hbad
    go_enter Tryd.func72, Tryd.ntmps72
    go_wp2
    go_loop [3] (fun i => ∃ k : Nat, k ≤ j ∧ i = .int .i64 k) (fun i => s.size - (intOf i).toNat)
    case atStart => exact ⟨0, Nat.zero_le _, rfl⟩
    case round =>
      obtain ⟨k, hk, rfl⟩ := hrel
      by_cases hkl : k = j
      · subst hkl
        have hb := HB.out
        rw [← Bool.not_eq_true, bvB_iff] at hb
        by_cases a1 : 32 ≤ s[k].toNat
        · by_cases a2 : s[k].toNat ≤ 126
          · have t3 : ((s[k].toNat : Int) == 59) = true := beq_iff_eq.2 (by omega)
            clear hb
            go_wp2
            go_ret
            exact ⟨rfl, rfl⟩
          · clear hb
            go_wp2
            go_ret
            exact ⟨rfl, rfl⟩
        · clear hb
          go_wp2
          go_ret
          exact ⟨rfl, rfl⟩
      · obtain ⟨a1, a2, a3⟩ := (bvB_iff _).1 (HA.out k (by omega))
        have hkz : k < s.size := by omega
        have t3 : (((s[k]'hkz).toNat : Int) == 59) = false := nat_beq_f a3
        clear a3
        go_wp2
        go_round
        case rel => exact ⟨k + 1, by omega, by go_num⟩
        case measure => simp [intOf]; omega

/-- where a walk over texts that seeks one ends -/
theorem seek_end (ss : List ByteArray) (x : ByteArray) : ∃ J, J ≤ ss.length ∧ (∀ k (_h : k < J) (h2 : k < ss.length), (ss[k].toList == x.toList) = false ∧ (x.toList == ss[k].toList) = false) ∧
    (J = ss.length ∧ keyI ss x = none ∧ memB x ss = false ∨ ∃ hj : J < ss.length, (ss[J].toList == x.toList) = true ∧ (x.toList == ss[J].toList) = true ∧ keyI ss x = some J ∧ memB x ss = true) := by
  cases h : keyI ss x with
  | none =>
    have h' : ∀ y ∈ ss, decide (y = x) = false := by simpa [keyI] using h
    refine ⟨ss.length, Nat.le_refl _, fun k _ h2 => ?_, .inl ⟨rfl, rfl, ?_⟩⟩
    · have := h' _ (List.getElem_mem h2)
      rw [strEq, strEq]
      exact ⟨this, by rw [decide_eq_false_iff_not] at this ⊢; exact fun e => this e.symm⟩
    · rw [← Bool.not_eq_true, memB_iff]
      intro hm
      have := h' _ hm
      simp at this
  | some J =>
    obtain ⟨hj, h1, h2⟩ := List.findIdx?_eq_some_iff_getElem.1 h
    have h1' : ss[J] = x := by simpa using h1
    refine ⟨J, Nat.le_of_lt hj, fun k hk hk2 => ?_, .inr ⟨hj, ?_, ?_, rfl, ?_⟩⟩
    · have := h2 k hk
      have h3 : ¬ ss[k] = x := by simpa using this
      rw [strEq, strEq]
      exact ⟨decide_eq_false h3, decide_eq_false fun e => h3 e.symm⟩
    · rw [strEq]; exact decide_eq_true h1'
    · rw [strEq]; exact decide_eq_true h1'.symm
    · rw [memB_iff, ← h1']; exact List.getElem_mem hj

/-- a place that is found, or none -/
def idxI (o : Option Nat) : Int := match o with | none => -1 | some i => (i : Int)
def IntS (n : Int) (w : World) (e : Ending) (w' : World) : Prop := e = .returned (.int .i64 n) ∧ w = w'

set_option maxHeartbeats 1600000 in
theorem index_any (a : Option Addr) (c : Nat) (ss : List ByteArray) (x : ByteArray) (w : World) (h : HasStrs w a c ss) : Calls Tryd.prog 81 #[.slice a ss.length c, .string x] w (IntS (idxI (keyI ss x)) w) := by
  obtain ⟨h1, h2, h3, h4⟩ := h
  unfold maxLen at h2
  rcases h4 with rfl | ⟨b, off, rfl, hb, hcell⟩
  · go_enter Tryd.func81, Tryd.ntmps81
    go_wp2
    refine wp_loop_rounds 1 ?_
    rw [rounds_succ]
    go_wp2
    go_ret
    exact ⟨rfl, rfl⟩
  obtain ⟨J, hJ, hok, hend⟩ := seek_end ss x
  have HC := Lib.hid hcell
  have HOK := Lib.hid hok
  have HE := Lib.hid hend
  clear hcell h3 hok hend
  go_enter Tryd.func81, Tryd.ntmps81
  go_wp2
  go_loop [8, 5] (fun i _ => ∃ k : Nat, k ≤ J ∧ i = .int .i64 k) (fun i _ => ss.length - (intOf i).toNat)
  case atStart => exact ⟨0, Nat.zero_le _, rfl⟩
  case round =>
    obtain ⟨k, hk, rfl⟩ := hrel
    by_cases hkl : k < ss.length
    · have hc1 := HC.out k hkl
      by_cases hkJ : k = J
      · rcases HE.out with ⟨he, _⟩ | ⟨hj, hq1, hq2, hq3, _⟩
        · omega
        · subst hkJ
          have H3 := Lib.hid hq3
          clear hq3
          go_wp2
          go_ret
          exact ⟨by rw [H3.out]; rfl, rfl⟩
      · obtain ⟨q1, q2⟩ := HOK.out k (by omega) hkl
        go_wp2
        go_round
        case rel => exact ⟨k + 1, by omega, by go_num⟩
        case measure => simp [intOf]; omega
    · rcases HE.out with ⟨_, hq, _⟩ | ⟨hj, _⟩
      · have H3 := Lib.hid hq
        clear hq
        go_wp2
        go_ret
        exact ⟨by rw [H3.out]; rfl, rfl⟩
      · omega

theorem memB_key (ss : List ByteArray) (x : ByteArray) : memB x ss = !decide (keyI ss x = none) ∧ (keyI ss x = none ∨ ∃ i, i < ss.length ∧ keyI ss x = some i) := by
  obtain ⟨J, hJ, _, hend⟩ := seek_end ss x
  rcases hend with ⟨_, h1, h2⟩ | ⟨hj, _, _, h1, h2⟩
  · exact ⟨by rw [h1, h2]; rfl, .inl h1⟩
  · exact ⟨by rw [h1, h2]; rfl, .inr ⟨J, hj, h1⟩⟩

theorem contains_any (a : Option Addr) (c : Nat) (ss : List ByteArray) (x : ByteArray) (w : World) (h : HasStrs w a c ss) : Calls Tryd.prog 67 #[.slice a ss.length c, .string x] w (BoolS (memB x ss) w) := by
  have hi := index_any a c ss x w h
  obtain ⟨h2, h1 | ⟨i, _, h1⟩⟩ := memB_key ss x
  · rw [h2, h1]
    rw [h1] at hi
    have HI := Lib.hid hi
    clear hi h1 h2 h
    go_enter Tryd.func67, Tryd.ntmps67
    go_wp2_with (go_at_call 81; refine HI.out.mono ?_; rintro e w2 ⟨rfl, rfl⟩)
    go_ret
    exact ⟨rfl, rfl⟩
  · rw [h2, h1]
    rw [h1] at hi
    have HI := Lib.hid hi
    clear hi h1 h2 h
    go_enter Tryd.func67, Tryd.ntmps67
    go_wp2_with (go_at_call 81; refine HI.out.mono ?_; rintro e w2 ⟨rfl, rfl⟩)
    go_ret
    exact ⟨by simp [idxI], rfl⟩

set_option maxHeartbeats 1600000 in
theorem rHas_any (a : Option Addr) (c : Nat) (ss : List ByteArray) (x : ByteArray) (w : World) (h : HasStrs w a c ss) : Calls Tryd.prog 51 #[.slice a ss.length c, .string x] w (BoolS (memB x ss) w) := by
  obtain ⟨h1, h2, h3, h4⟩ := h
  unfold maxLen at h2
  rcases h4 with rfl | ⟨b, off, rfl, hb, hcell⟩
  · go_enter Tryd.func51, Tryd.ntmps51
    go_wp2
    refine wp_loop_rounds 1 ?_
    rw [rounds_succ]
    go_wp2
    go_ret
    exact ⟨rfl, rfl⟩
  obtain ⟨J, hJ, hok, hend⟩ := seek_end ss x
  have HC := Lib.hid hcell
  have HOK := Lib.hid hok
  have HE := Lib.hid hend
  clear hcell h3 hok hend
  go_enter Tryd.func51, Tryd.ntmps51
  go_wp2
  go_loop [9, 6] (fun i _ => ∃ k : Nat, k ≤ J ∧ i = .int .i64 k) (fun i _ => ss.length - (intOf i).toNat)
  case atStart => exact ⟨0, Nat.zero_le _, rfl⟩
  case round =>
    obtain ⟨k, hk, rfl⟩ := hrel
    by_cases hkl : k < ss.length
    · have hc1 := HC.out k hkl
      by_cases hkJ : k = J
      · rcases HE.out with ⟨he, _⟩ | ⟨hj, hq1, hq2, _, hq3⟩
        · omega
        · subst hkJ
          have H3 := Lib.hid hq3
          clear hq3
          go_wp2
          go_ret
          exact ⟨by rw [H3.out]; rfl, rfl⟩
      · obtain ⟨q1, q2⟩ := HOK.out k (by omega) hkl
        go_wp2
        go_round
        case rel => exact ⟨k + 1, by omega, by go_num⟩
        case measure => simp [intOf]; omega
    · rcases HE.out with ⟨_, _, hq⟩ | ⟨hj, _⟩
      · have H3 := Lib.hid hq
        clear hq
        go_wp2
        go_ret
        exact ⟨by rw [H3.out]; rfl, rfl⟩
      · omega
end Go.Proofs.YtekcmgajjbdmgabDoor
