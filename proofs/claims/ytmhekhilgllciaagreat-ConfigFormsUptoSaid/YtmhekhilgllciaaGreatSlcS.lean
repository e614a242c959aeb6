/- The contracts of the library's Index and Contains of rows of texts. -/
import Derived.Test.YtmhekhilgllciaaGreatBlkM
import Derived.Test.YtmhekhilgllciaaGreatBlkG
import Derived.Test.YtmhekhilgllciaaGreatInfo
import Derived.Test.YtmhekhilgllciaaGreatStrs
import Derived.WalkLawsBesides
import Derived.IntWalk
import Derived.Deep.QuietTactic
import Derived.BigQuiet
namespace Go.Proofs.YtmhekhilgllciaaGreat
open Go.RowKit

/-- where a walk over texts that seeks one ends -/
theorem seek_end (ss : List ByteArray) (x : ByteArray) : ∃ J, J ≤ ss.length ∧ (∀ k (_h : k < J) (h2 : k < ss.length), (ss[k].toList == x.toList) = false ∧ (x.toList == ss[k].toList) = false) ∧
    (J = ss.length ∧ keyIB ss x = none ∧ memB x ss = false ∨ ∃ hj : J < ss.length, (ss[J].toList == x.toList) = true ∧ (x.toList == ss[J].toList) = true ∧ keyIB ss x = some J ∧ memB x ss = true) := by
  cases h : keyIB ss x with
  | none =>
    have h' : ∀ y ∈ ss, decide (y = x) = false := by simpa [keyIB] using h
    refine ⟨ss.length, Nat.le_refl _, fun k _ h2 => ?_, .inl ⟨rfl, rfl, ?_⟩⟩
    · have := h' _ (List.getElem_mem h2)
      rw [strEq, strEq]
      exact ⟨this, by rw [decide_eq_false_iff_not] at this ⊢; exact fun e => this e.symm⟩
    · rw [← Bool.not_eq_true, memB_iff]
      intro hm
      have := h' _ hm
      simp at this
  | some J =>
    obtain ⟨hj, h1, h2⟩ := List.findIdx?_eq_some_iff_getElem.1 h
    have h1' : ss[J] = x := by simpa using h1
    refine ⟨J, Nat.le_of_lt hj, fun k hk hk2 => ?_, .inr ⟨hj, ?_, ?_, rfl, ?_⟩⟩
    · have := h2 k hk
      have h3 : ¬ ss[k] = x := by simpa using this
      rw [strEq, strEq]
      exact ⟨decide_eq_false h3, decide_eq_false fun e => h3 e.symm⟩
    · rw [strEq]; exact decide_eq_true h1'
    · rw [strEq]; exact decide_eq_true h1'.symm
    · rw [memB_iff, ← h1']; exact List.getElem_mem hj

/-- a place that is found, or none -/
def idxI (o : Option Nat) : Int := match o with | none => -1 | some i => (i : Int)
def IntS (n : Int) (w : World) (e : Ending) (w' : World) : Prop := e = .returned (.int .i64 n) ∧ w = w'

set_option maxHeartbeats 1600000 in
theorem index_any (a : Option Addr) (c : Nat) (ss : List ByteArray) (x : ByteArray) (w : World) (h : HasStrs w a c ss) : Calls Tryz.prog 199 #[.slice a ss.length c, .string x] w (IntS (idxI (keyIB ss x)) w) := by
  obtain ⟨h1, h2, h3, h4⟩ := h
  unfold maxLen at h2
  rcases h4 with rfl | ⟨b, off, rfl, hb, hcell⟩
  · go_enter Tryz.func199, Tryz.ntmps199
    go_wp2
    refine wp_loop_rounds 1 ?_
    rw [rounds_succ]
    go_wp2
    go_ret
    exact ⟨rfl, rfl⟩
  obtain ⟨J, hJ, hok, hend⟩ := seek_end ss x
  have HC := Lib.hid hcell
  have HOK := Lib.hid hok
  have HE := Lib.hid hend
  clear hcell h3 hok hend
  go_enter Tryz.func199, Tryz.ntmps199
  go_wp2
  go_loop [8, 5] (fun i _ => ∃ k : Nat, k ≤ J ∧ i = .int .i64 k) (fun i _ => ss.length - (intOf i).toNat)
  case atStart => exact ⟨0, Nat.zero_le _, rfl⟩
  case round =>
    obtain ⟨k, hk, rfl⟩ := hrel
    by_cases hkl : k < ss.length
    · have hc1 := HC.out k hkl
      by_cases hkJ : k = J
      · rcases HE.out with ⟨he, _⟩ | ⟨hj, hq1, hq2, hq3, _⟩
        · omega
        · subst hkJ
          have H3 := Lib.hid hq3
          clear hq3
          go_wp2
          go_ret
          exact ⟨by rw [H3.out]; rfl, rfl⟩
      · obtain ⟨q1, q2⟩ := HOK.out k (by omega) hkl
        go_wp2
        go_round
        case rel => exact ⟨k + 1, by omega, by go_num⟩
        case measure => simp [intOf]; omega
    · rcases HE.out with ⟨_, hq, _⟩ | ⟨hj, _⟩
      · have H3 := Lib.hid hq
        clear hq
        go_wp2
        go_ret
        exact ⟨by rw [H3.out]; rfl, rfl⟩
      · omega

theorem memB_key (ss : List ByteArray) (x : ByteArray) : memB x ss = !decide (keyIB ss x = none) ∧ (keyIB ss x = none ∨ ∃ i, i < ss.length ∧ keyIB ss x = some i) := by
  obtain ⟨J, hJ, _, hend⟩ := seek_end ss x
  rcases hend with ⟨_, h1, h2⟩ | ⟨hj, _, _, h1, h2⟩
  · exact ⟨by rw [h1, h2]; rfl, .inl h1⟩
  · exact ⟨by rw [h1, h2]; rfl, .inr ⟨J, hj, h1⟩⟩

theorem contains_any (a : Option Addr) (c : Nat) (ss : List ByteArray) (x : ByteArray) (w : World) (h : HasStrs w a c ss) : Calls Tryz.prog 138 #[.slice a ss.length c, .string x] w (BoolS (memB x ss) w) := by
  have hi := index_any a c ss x w h
  obtain ⟨h2, h1 | ⟨i, _, h1⟩⟩ := memB_key ss x
  · rw [h2, h1]
    rw [h1] at hi
    have HI := Lib.hid hi
    clear hi h1 h2 h
    go_enter Tryz.func138, Tryz.ntmps138
    go_wp2_with (go_at_call 199; refine HI.out.mono ?_; rintro e w2 ⟨rfl, rfl⟩)
    go_ret
    exact ⟨rfl, rfl⟩
  · rw [h2, h1]
    rw [h1] at hi
    have HI := Lib.hid hi
    clear hi h1 h2 h
    go_enter Tryz.func138, Tryz.ntmps138
    go_wp2_with (go_at_call 199; refine HI.out.mono ?_; rintro e w2 ⟨rfl, rfl⟩)
    go_ret
    exact ⟨by simp [idxI], rfl⟩
end Go.Proofs.YtmhekhilgllciaaGreat
