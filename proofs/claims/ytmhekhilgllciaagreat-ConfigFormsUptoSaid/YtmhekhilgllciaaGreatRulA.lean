/- The contracts of rules.rightWord, within and rightLabels. -/
import Derived.Test.YtmhekhilgllciaaGreatRulM
import Derived.Test.YtmhekhilgllciaaGreatBlkE
import Derived.Test.YtmhekhilgllciaaGreatLabC
namespace Go.Proofs.YtmhekhilgllciaaGreat
open Go.RowKit

theorem word_defs (s : ByteArray) : defsC [⟨s, [], []⟩] = bwC s.data.toList := by
  simp [defsC, defC, keysC]
theorem rword_any (s : ByteArray) (w : World) (hs : s.size ≤ maxLen) : Calls Tryz.prog 81 #[.string s] w (BoolB (bwC s.data.toList) w) := by
  have hb := (Below.refl w.heap.size w).alloc (Nat.le_refl _) (.cells #[.string s, .slice none 0 0, .slice none 0 0] 113)
  have hB := Blk.new w 113 #[.string s, .slice none 0 0, .slice none 0 0]
  have hd : HasDefs (w.alloc (.cells #[.string s, .slice none 0 0, .slice none 0 0] 113)) (some ⟨w.heap.size, 0, none⟩) 1 [⟨s, [], []⟩] := by
    refine ⟨Nat.le_refl _, by unfold maxLen; omega, .inr ⟨_, _, rfl, hB.lt, fun i hi => ?_⟩⟩
    obtain rfl : i = 0 := by simpa using hi
    refine ⟨⟨⟨s, [], []⟩, none, 0, none, 0⟩, rfl, ⟨hB.cell 0, hB.cell 1, hB.cell 2⟩, HasStrs.nil _ _ _ (Nat.zero_le _), HasStrs.nil _ _ _ (Nat.zero_le _), hs⟩
  have hr := bRight_any _ _ _ _ hd
  rw [word_defs] at hr
  go_enter Tryz.func81, Tryz.ntmps81
  go_wp2_with (go_at_call 87; refine hr.mono ?_; rintro e w2 ⟨rfl, hb2⟩)
  go_ret
  exact ⟨rfl, bthen hb hb2⟩
theorem within_any (n a b : Int) (w : World) : Calls Tryz.prog 82 #[.int .i64 n, .int .i64 a, .int .i64 b] w (BoolS (inC n a b) w) := by
  unfold inC
  by_cases h : a ≤ n
  · have h1 : decide (a ≤ n) = true := decide_eq_true h
    go_enter Tryz.func82, Tryz.ntmps82
    go_wp2
    go_ret
    exact ⟨by rw [h1, Bool.true_and]; rfl, rfl⟩
  · have h1 : decide (a ≤ n) = false := decide_eq_false h
    go_enter Tryz.func82, Tryz.ntmps82
    go_wp2
    go_ret
    exact ⟨by simp, rfl⟩
theorem isAlert_any (l : Lab) (w : World) : Calls Tryz.prog 120 #[.agg #[.string l.1, .string l.2]] w (BoolB (decide (l.1 = aName)) w) := by
  have h : (l.1.toList == [97, 108, 101, 114, 116]) = decide (l.1 = aName) := by
    have := toList_eq_iff l.1 aName
    rwa [show aName.toList = [97, 108, 101, 114, 116] by rw [ByteArray.toList_eq]; rfl] at this
  go_enter Tryz.func120, Tryz.ntmps120
  go_wp2
  go_ret
  exact ⟨by rw [← h]; rfl, (Below.refl _ _).alloc (Nat.le_refl _) _⟩

def IdxP (B : Bool) (w : World) (e : Ending) (w' : World) : Prop := ∃ n : Int, e = .returned (.int .i64 n) ∧ decide (0 ≤ n) = B ∧ Below w.heap.size w w'
set_option maxHeartbeats 1600000 in
theorem idxAlert_any (a : Option Addr) (c : Nat) (ls : List Lab) (w : World) (h : HasLabs w a c ls) :
    Calls Tryz.prog 185 #[.slice a ls.length c, .func (.func 120) #[] #[]] w (IdxP (hasN ls aName) w) := by
  have h1 := h.1
  have h2 := h.2.1
  have h4 := h.2.2.2
  unfold maxLen at h2
  obtain ⟨J, hJ, hok, hend⟩ := all_endB (fun l : Lab => !decide (l.1 = aName)) ls
  have HOK := Lib.hid hok
  have HE : Hid (J = ls.length ∧ hasN ls aName = false ∨ ∃ hj : J < ls.length, decide (ls[J].1 = aName) = true ∧ hasN ls aName = true) := Lib.hid (by
    rcases hend with ⟨e, hh⟩ | ⟨hj, hq, _⟩
    · refine .inl ⟨e, ?_⟩
      rw [← Bool.not_eq_true, hasN_iff]
      rintro ⟨m, hm, e2⟩
      have := List.all_eq_true.1 hh m hm
      rw [decide_eq_true e2] at this
      cases this
    · have hq' : decide (ls[J].1 = aName) = true := by simpa using hq
      exact .inr ⟨hj, hq', (hasN_iff _ _).2 ⟨_, List.getElem_mem hj, of_decide_eq_true hq'⟩⟩)
  have HA := Lib.hid isAlert_any
  generalize hasN ls aName = R at *
  clear hok hend
  have HC : Hid (∀ k (hk : k < ls.length), ∃ b off, a = some ⟨b, off, none⟩ ∧ w.cell? ⟨b, off + k * 2, none⟩ = some (.string ls[k].1) ∧ w.cell? ⟨b, off + k * 2 + 1, none⟩ = some (.string ls[k].2)) := Lib.hid (fun k hk => by
    rcases h4 with rfl | ⟨b, off, e, hb, hc⟩
    · cases hk
    · exact ⟨b, off, e, hc k hk⟩)
  clear h h4
  go_enter Tryz.func185, Tryz.ntmps185
  go_wp2
  go_loopw [8] (fun i wr => ∃ k : Nat, k ≤ J ∧ i = .int .i64 k ∧ Below w.heap.size w wr) (fun i _ => ls.length - (intOf i).toNat)
  case atStart => exact ⟨0, Nat.zero_le _, rfl, Below.refl _ _⟩
  case round =>
    obtain ⟨k, hk, rfl, hbl⟩ := hrel
    by_cases hkl : k < ls.length
    · obtain ⟨b, off, rfl, hc1, hc2⟩ := HC.out k hkl
      have hc1 := cellL hbl hc1
      have hc2 := cellL hbl hc2
      by_cases hkJ : k = J
      · rcases HE.out with ⟨he, _⟩ | ⟨hj, hq, hg⟩
        · omega
        · subst hkJ
          have hal := HA.out ls[k] wr
          rw [hq] at hal
          generalize ls[k] = X at *
          have HAL := Lib.hid hal
          clear hal hq hk hJ
          go_wp2_with (go_at_call 120; refine HAL.out.mono ?_; rintro e w2 ⟨rfl, hb2⟩)
          go_ret
          exact ⟨_, rfl, by rw [hg]; simp, bthen hbl hb2⟩
      · have hq : decide (ls[k].1 = aName) = false := by have := HOK.out k (by omega) hkl; simpa using this
        have hal := HA.out ls[k] wr
        rw [hq] at hal
        generalize ls[k] = X at *
        have HAL := Lib.hid hal
        clear hal hq
        go_wp2_with (go_at_call 120; refine HAL.out.mono ?_; rintro e w2 ⟨rfl, hb2⟩)
        go_roundw
        case rel => exact ⟨k + 1, by omega, by go_num, bthen hbl hb2⟩
        case measure => simp [intOf]; omega
    · rcases HE.out with ⟨he, hg⟩ | ⟨hj, _⟩
      · clear he
        go_wp2
        go_ret
        exact ⟨_, rfl, by rw [hg]; rfl, hbl⟩
      · omega
theorem hasAlert_any (a : Option Addr) (c : Nat) (ls : List Lab) (w : World) (h : HasLabs w a c ls) :
    Calls Tryz.prog 122 #[.slice a ls.length c, .func (.func 120) #[] #[]] w (BoolB (hasN ls aName) w) := by
  have HI := Lib.hid (idxAlert_any a c ls w h)
  clear h
  go_enter Tryz.func122, Tryz.ntmps122
  go_wp2_with (go_at_call 185; refine HI.out.mono ?_; rintro e w2 ⟨n, rfl, hn, hb2⟩)
  go_ret
  exact ⟨by rw [← hn]; rfl, hb2⟩

set_option maxHeartbeats 1600000 in
theorem rlabs_any (a : Option Addr) (c : Nat) (ls : List Lab) (w : World) (h : HasLabs w a c ls) :
    Calls Tryz.prog 83 #[.slice a ls.length c] w (BoolB (rlabsC ls) w) := by
  have h1 := h.1
  have h2 := h.2.1
  unfold maxLen at h2
  have HR := Lib.hid (fun W (h : HasLabs W a c ls) => right_any a c ls W h)
  have HA := Lib.hid (fun W (h : HasLabs W a c ls) => hasAlert_any a c ls W h)
  have H := Lib.hid h
  clear h
  unfold rlabsC
  by_cases h8 : ls.length ≤ 4
  · rw [decide_eq_true h8]
    have h8' : decide ((ls.length : Int) ≤ 4) = true := decide_eq_true (by omega)
    cases hr : rightC ls with
    | false =>
      rw [hr] at HR
      clear hr
      go_enter Tryz.func83, Tryz.ntmps83
      go_wp2_with (go_at_call 121; refine (HR.out _ H.out).mono ?_; rintro e w2 ⟨rfl, hb2⟩)
      go_ret
      exact ⟨rfl, hb2⟩
    | true =>
      rw [hr] at HR
      clear hr
      go_enter Tryz.func83, Tryz.ntmps83
      go_wp2_with (first | (go_at_call 121; refine (HR.out _ H.out).mono ?_; rintro e w2 ⟨rfl, hb2⟩) | (go_at_call 122; refine (HA.out _ (H.out.call hb2)).mono ?_; rintro e w3 ⟨rfl, hb3⟩))
      go_ret
      exact ⟨by simp, bthen hb2 hb3⟩
  · rw [decide_eq_false h8]
    have h8' : decide ((ls.length : Int) ≤ 4) = false := decide_eq_false (by omega)
    go_enter Tryz.func83, Tryz.ntmps83
    go_wp2
    go_ret
    exact ⟨by simp, Below.refl _ _⟩
end Go.Proofs.YtmhekhilgllciaaGreat
