/- The contracts of outline.rightNames, rightParts, right, Right. -/
import Derived.Test.YtolbhhokpelchaaDoorOutA
import Derived.Test.YtolbhhokpelchaaDoorOutD
import Derived.Test.YtolbhhokpelchaaDoorLater
import Derived.Outline
namespace Go.Proofs.YtolbhhokpelchaaDoor
open Go.RowKit

theorem HasStrs.atN {w : World} {b off c : Nat} {ss : List ByteArray} (h : HasStrs w (some ⟨b, off, none⟩) c ss) (i : Nat) (hi : i < ss.length) : w.cell? ⟨b, off + i, none⟩ = some (.string ss[i]) := by
  rcases h.2.2.2 with h4 | ⟨b', o', e, _, hc⟩
  · subst h4; simp at hi
  · cases e; exact hc i hi
theorem HasStrs.takeS {w : World} {a : Option Addr} {c : Nat} {ss : List ByteArray} (h : HasStrs w a c ss) (k : Nat) : HasStrs w a c (ss.take k) := by
  obtain ⟨h1, h2, h3, h4⟩ := h
  refine ⟨by rw [List.length_take]; omega, h2, fun s hs => h3 s (List.mem_of_mem_take hs), ?_⟩
  rcases h4 with rfl | ⟨b, off, rfl, hb, hc⟩
  · exact .inl (by simp)
  · refine .inr ⟨b, off, rfl, hb, fun i hi => ?_⟩
    have hi' : i < ss.length := by rw [List.length_take] at hi; omega
    rw [hc i hi']; simp

set_option maxHeartbeats 3200000 in
theorem oNames_any (a : Option Addr) (c : Nat) (ss : List ByteArray) (w : World) (h : HasStrs w a c ss) : Calls Tryd.prog 72 #[.slice a ss.length c] w (BoolS (namesC ss) w) := by
  have l1 := h.1
  have l2 := h.2.1
  unfold maxLen at l2
  by_cases h64 : ss.length ≤ 64
  case neg =>
    have hR : namesC ss = false := by unfold namesC; rw [decide_eq_false h64]; rfl
    rw [hR]
    clear hR h
    go_enter Tryd.func72, Tryd.ntmps72
    go_wp2_with fail
    go_ret
    exact ⟨rfl, rfl⟩
  obtain ⟨J, hJ, hok, hend⟩ := names_end ss h64
  obtain ⟨R, hR⟩ : ∃ R, namesC ss = R := ⟨_, rfl⟩
  rw [hR] at hend ⊢
  have HOK := Lib.hid hok
  have HE := Lib.hid hend
  have HK := Lib.hid h
  clear hok hend hR
  by_cases hz : ss.length = 0
  · rcases HE.out with ⟨_, hR⟩ | ⟨hj, _⟩
    · subst hR
      clear h
      go_enter Tryd.func72, Tryd.ntmps72
      go_wp2_with fail
      refine wp_loop_rounds 1 ?_
      rw [rounds_succ]
      go_wp2_with fail
      go_ret
      exact ⟨rfl, rfl⟩
    · omega
  obtain ⟨b1, o1, rfl⟩ : ∃ b off, a = some ⟨b, off, none⟩ := by
    rcases h.2.2.2 with h | ⟨b, off, h, _⟩
    · exact absurd (by rw [h]; rfl) hz
    · exact ⟨b, off, h⟩
  clear hz h
  go_enter Tryd.func72, Tryd.ntmps72
  go_wp2_with fail
  go_loopg [10, 3, 4] ss.length (fun gg iv _ _ wr => ∃ k : Nat, k + gg = ss.length ∧ k ≤ J ∧ iv = .int .i64 k ∧ wr = w)
  case atStart => exact ⟨0, by omega, Nat.zero_le _, rfl, rfl⟩
  case round =>
    obtain ⟨k, hkg, hkJ, rfl, rfl⟩ := hrel
    cases gk with
    | zero =>
      rcases HE.out with ⟨_, hR⟩ | ⟨hj, _⟩
      · subst hR
        obtain rfl : k = ss.length := by omega
        go_wp2_with fail
        go_ret
        exact ⟨rfl, rfl⟩
      · omega
    | succ gg =>
      have hkl : k < ss.length := by omega
      have e1 := HK.out.atN k hkl
      have hm1 : ss[k].size ≤ maxLen := HK.out.2.2.1 _ (List.getElem_mem hkl)
      have hcon := contains_any _ _ _ ss[k] wr (HK.out.takeS k)
      have hlt : (ss.take k).length = k := by rw [List.length_take]; omega
      rw [hlt] at hcon
      have ho := onK_at ss k hkl
      obtain ⟨X, hX⟩ : ∃ X, ss[k] = X := ⟨_, rfl⟩
      rw [hX] at e1 hm1 hcon ho
      have HN := Lib.hid (fun W => oName_any X W hm1)
      have HC := Lib.hid hcon
      obtain ⟨B, hB⟩ : ∃ B, bwC X.data.toList = B := ⟨_, rfl⟩
      obtain ⟨M, hM⟩ : ∃ M, memB X (ss.take k) = M := ⟨_, rfl⟩
      rw [hB] at HN ho
      rw [hM] at HC ho
      have HO := Lib.hid ho
      clear hX hm1 hcon hlt ho hB hM
      by_cases hkJ2 : k = J
      · subst hkJ2
        rcases HE.out with ⟨h, _⟩ | ⟨_, hbad, hR⟩
        · omega
        · subst hR
          have hz := HO.out
          rw [hbad] at hz
          clear hbad
          cases B <;> cases M <;> simp at hz
          all_goals
            go_wp2_with (first
              | (go_at_call 81; refine (HN.out _).mono ?_; rintro e w2 ⟨rfl, rfl⟩)
              | (go_at_call 74; refine HC.out.mono ?_; rintro e w2 ⟨rfl, rfl⟩))
            go_ret
            exact ⟨rfl, rfl⟩
      · have hgood := HOK.out k (by omega)
        have hz := HO.out
        rw [hgood] at hz
        clear hgood
        cases B <;> cases M <;> simp at hz
        go_wp2_with (first
          | (go_at_call 81; refine (HN.out _).mono ?_; rintro e w2 ⟨rfl, rfl⟩)
          | (go_at_call 74; refine HC.out.mono ?_; rintro e w2 ⟨rfl, rfl⟩))
        go_roundg gg
        case measure => omega
        case rel => exact ⟨k + 1, by omega, by omega, by go_num, rfl⟩
end Go.Proofs.YtolbhhokpelchaaDoor
