/- The contracts of the document's own Right, Like and Text of layer 6. -/
import Derived.Test.YthodifgohdaedabBlkE
import Derived.Test.YthodifgohdaedabSameR
import Derived.Test.YthodifgohdaedabLater
import Derived.Test.YthodifgohdaedabBlkL
namespace Go.Proofs.Ythodifgohdaedab
open Go.RowKit

set_option maxHeartbeats 6400000 in
set_option maxRecDepth 100000 in
theorem rRight_some (b off c : Nat) (ds : List Dfn) (w : World) (h : HasDefs w (some ⟨b, off, none⟩) c ds) : Calls Try.prog 7 #[.slice (some ⟨b, off, none⟩) ds.length c] w (BoolW (ds.all defC && decide (ds.length ≤ 64)) w) := by
  have h1 := h.1
  have h2 := h.2.1
  unfold maxLen at h2
  obtain ⟨R, hR2⟩ : ∃ R, (ds.all defC && decide (ds.length ≤ 64)) = R := ⟨_, rfl⟩
  rw [hR2]
  have HR := Lib.hid hR2
  clear hR2
  obtain ⟨J, hJ, hok, hend⟩ := all_endB defC ds
  have HOK := Lib.hid hok
  have HE := Lib.hid hend
  have HD := Lib.hid h
  clear hok hend h
  go_enter Try.func7, Try.ntmps7
  go_wp2
  go_loopw [9, 4, 5, 6] (fun i _ _ _ wr => ∃ k : Nat, k ≤ J ∧ i = .int .i64 k ∧ Below w.heap.size w wr) (fun i _ _ _ _ => ds.length - (intOf i).toNat)
  case atStart => exact ⟨0, Nat.zero_le _, rfl, Below.refl _ _⟩
  case round =>
    obtain ⟨k, hkJ, rfl, hb⟩ := hrel
    by_cases hkl : k < ds.length
    · obtain ⟨q, hq, ⟨c0, c1, c2⟩, hqo⟩ := (HD.out.call hb).at k hkl
      have hx := Blk.new wr 32 (dCells q)
      have hbx := (Below.refl wr.heap.size wr).alloc (Nat.le_refl _) (.cells (dCells q) 32)
      have hbb := bthen hb hbx
      have hqo2 := hqo.call hbx
      obtain ⟨d, ka, kc, va, vc⟩ := q
      have HQ := Lib.hid hq
      have HX := Lib.hid hx.cells3
      simp only at c0 c1 c2
      go_upto_region 4 with fail
      clear c0 c1 c2
      obtain ⟨x0, x1, x2⟩ := HX.out
      have HB := Lib.hid hbb
      obtain ⟨hk, hv, hs⟩ := hqo2
      simp only at hk hv hs x0 x1 x2
      clear hx hbx hbb hq hqo hb
      generalize wr.alloc (.cells (dCells ⟨d, ka, kc, va, vc⟩) 32) = wx at *
      have hwd := fun W => rbWord_any d.kind W hs
      obtain ⟨A, hA⟩ : ∃ A, bwC d.kind.data.toList = A := ⟨_, rfl⟩
      rw [hA] at hwd
      have hdc : defC d = (A && decide (d.keys.length ≤ 64) && decide (d.keys.length = d.vals.length) && keysC d.keys d.vals) := by rw [defC, hA]
      have hne := int_neq d.keys.length d.vals.length
      have l1 : d.keys.length ≤ kc := hk.1
      have l2 := hk.2.1
      have l3 : d.vals.length ≤ vc := hv.1
      have l4 := hv.2.1
      unfold maxLen at l2 l4
      have HW := Lib.hid hwd
      have HDC := Lib.hid hdc
      have HK := Lib.hid hk
      have HV := Lib.hid hv
      clear hwd hA hdc hk hv hs
      by_cases hkJ2 : k = J
      · have hbad : defC d = false ∧ ds.all defC = false := by
          rcases HE.out with ⟨he, _⟩ | ⟨_, g1, g2⟩
          · omega
          · subst hkJ2; exact ⟨by rw [show d = ds[k] from HQ.out]; exact g1, g2⟩
        obtain rfl : R = false := by rw [← HR.out, hbad.2]; rfl
        have hdc := HDC.out
        rw [hbad.1] at hdc
        clear hbad hkJ2 hkJ
        cases A with
        | false =>
          clear hdc
          go_wp2_with (go_at_call 15; refine (HW.out _).mono ?_; rintro e w2 ⟨rfl, rfl⟩)
          go_ret
          exact ⟨rfl, HB.out⟩
        | true =>
        by_cases h64 : d.keys.length ≤ 64
        case neg =>
          clear hdc
          go_wp2_with (go_at_call 15; refine (HW.out _).mono ?_; rintro e w2 ⟨rfl, rfl⟩)
          go_ret
          exact ⟨rfl, HB.out⟩
        by_cases heq : d.keys.length = d.vals.length
        case neg =>
          rw [decide_eq_false heq] at hne
          simp only [Bool.not_false] at hne
          clear heq hdc
          go_wp2_with (go_at_call 15; refine (HW.out _).mono ?_; rintro e w2 ⟨rfl, rfl⟩)
          go_ret
          exact ⟨rfl, HB.out⟩
        rw [decide_eq_true heq] at hne
        simp only [Bool.not_true] at hne
        have hKC : keysC d.keys d.vals = false := by rw [decide_eq_true heq, decide_eq_true h64] at hdc; simpa using hdc.symm
        have HEQ := Lib.hid heq
        clear heq hdc
        obtain ⟨J2, hJ2, hok2, hend2⟩ := keys_end d.keys d.vals
        have HOK2 := Lib.hid hok2
        have HE2 := Lib.hid hend2
        clear hok2 hend2
        go_upto_region 6 with (go_at_call 15; refine (HW.out _).mono ?_; rintro e w2 ⟨rfl, rfl⟩)
        clear hne HW
        by_cases hkz : d.keys.length = 0
        · have h0 : keysC d.keys d.vals = true := by
            rw [List.eq_nil_of_length_eq_zero hkz]; rfl
          rw [h0] at hKC
          cases hKC
        obtain ⟨b1, o1, rfl⟩ : ∃ b off, ka = some ⟨b, off, none⟩ := by
          rcases HK.out.2.2.2 with h | ⟨b, off, h, _⟩
          · exact absurd (by rw [h]; rfl) hkz
          · exact ⟨b, off, h⟩
        obtain ⟨b2, o2, rfl⟩ : ∃ b off, va = some ⟨b, off, none⟩ := by
          rcases HV.out.2.2.2 with h | ⟨b, off, h, _⟩
          · exact absurd (by rw [HEQ.out, h]; rfl) hkz
          · exact ⟨b, off, h⟩
        clear hkz
        have HKC := Lib.hid hKC
        clear hKC
        go_wp2_with fail
        go_loop [35, 5, 6] (fun i _ _ => ∃ m : Nat, m ≤ J2 ∧ i = .int .i64 m) (fun i _ _ => d.keys.length - (intOf i).toNat)
        case atStart => exact ⟨0, Nat.zero_le _, rfl⟩
        case round =>
          obtain ⟨m, hmJ, rfl⟩ := hrel
          by_cases hml : m < d.keys.length
          · have hmv : m < d.vals.length := by have := HEQ.out; omega
            have e1 := HK.out.at m hml
            have e2 := HV.out.at m hmv
            have hm1 := mem_sizes HK.out m hml
            have hm2 := mem_sizes HV.out m hmv
            have hcon := rHas_any _ _ _ d.keys[m] wx (HK.out.takeN m)
            have hlt : (d.keys.take m).length = m := by rw [List.length_take]; omega
            rw [hlt] at hcon
            have ho := okD_at d.keys d.vals m hml hmv
            obtain ⟨X, hX⟩ : ∃ X, d.keys[m] = X := ⟨_, rfl⟩
            obtain ⟨Y, hY⟩ : ∃ Y, d.vals[m] = Y := ⟨_, rfl⟩
            rw [hX] at e1 hm1 hcon ho
            rw [hY] at e2 hm2 ho
            have HW2 := Lib.hid (fun W => rbWord_any X W hm1)
            have HV2 := Lib.hid (fun W => rbValue_any Y W hm2)
            have HC := Lib.hid hcon
            obtain ⟨A2, hA⟩ : ∃ A2, bwC X.data.toList = A2 := ⟨_, rfl⟩
            obtain ⟨M, hM⟩ : ∃ M, memB X (d.keys.take m) = M := ⟨_, rfl⟩
            obtain ⟨V, hV⟩ : ∃ V, bvC Y.data.toList = V := ⟨_, rfl⟩
            rw [hA, hM, hV] at ho
            rw [hA] at HW2
            rw [hM] at HC
            rw [hV] at HV2
            clear hm1 hm2 hcon hlt hX hY hA hM hV
            by_cases hmJ2 : m = J2
            · have hbad : keysC d.keys d.vals = false ∧ okD d.keys d.vals m = false := by
                rcases HE2.out with ⟨he, _⟩ | ⟨_, g1, g2⟩
                · omega
                · subst hmJ2; exact ⟨g2, g1⟩
              rw [hbad.2] at ho
              clear hbad hmJ2 hmJ
              have h3 : A2 = false ∨ A2 = true ∧ M = true ∨ A2 = true ∧ M = false ∧ V = false := by revert ho; cases A2 <;> cases M <;> cases V <;> simp
              clear ho
              rcases h3 with rfl | ⟨rfl, rfl⟩ | ⟨rfl, rfl, rfl⟩
              all_goals
                go_wp2_with (first | (go_at_call 15; refine (HW2.out _).mono ?_; rintro e w2 ⟨rfl, rfl⟩) | (go_at_call 16; refine HC.out.mono ?_; rintro e w2 ⟨rfl, rfl⟩) | (go_at_call 17; refine (HV2.out _).mono ?_; rintro e w2 ⟨rfl, rfl⟩))
                go_ret
                exact ⟨rfl, HB.out⟩
            · rw [HOK2.out m (by omega)] at ho
              have h3 : A2 = true ∧ M = false ∧ V = true := by revert ho; cases A2 <;> cases M <;> cases V <;> simp
              obtain ⟨rfl, rfl, rfl⟩ := h3
              clear ho
              go_wp2_with (first | (go_at_call 15; refine (HW2.out _).mono ?_; rintro e w2 ⟨rfl, rfl⟩) | (go_at_call 16; refine HC.out.mono ?_; rintro e w2 ⟨rfl, rfl⟩) | (go_at_call 17; refine (HV2.out _).mono ?_; rintro e w2 ⟨rfl, rfl⟩))
              go_round
              case rel => exact ⟨m + 1, by omega, by go_num⟩
              case measure => simp [intOf]; omega
          · rcases HE2.out with ⟨_, hr⟩ | ⟨hj, _, _⟩
            · rw [HKC.out] at hr; cases hr
            · omega
      · have hgood : defC d = true := by rw [show d = ds[k] from HQ.out]; exact HOK.out k (by omega) hkl
        have hdc := HDC.out
        rw [hgood] at hdc
        have hd2 := hdc.symm
        simp only [Bool.and_eq_true, decide_eq_true_eq] at hd2
        obtain ⟨⟨⟨rfl, h64⟩, heq⟩, hKC⟩ := hd2
        rw [decide_eq_true heq] at hne
        simp only [Bool.not_true] at hne
        have HEQ := Lib.hid heq
        clear heq hdc hgood
        obtain ⟨J2, hJ2, hok2, hend2⟩ := keys_end d.keys d.vals
        have HOK2 := Lib.hid hok2
        have HE2 := Lib.hid hend2
        clear hok2 hend2
        go_upto_region 6 with (go_at_call 15; refine (HW.out _).mono ?_; rintro e w2 ⟨rfl, rfl⟩)
        clear hne HW
        by_cases hkz : d.keys.length = 0
        · go_wp2_with fail
          refine wp_loop_rounds 1 ?_
          rw [rounds_succ]
          go_wp2_with fail
          go_roundw
          case rel => exact ⟨k + 1, by omega, by go_num, HB.out⟩
          case measure => simp [intOf]; omega
        obtain ⟨b1, o1, rfl⟩ : ∃ b off, ka = some ⟨b, off, none⟩ := by
          rcases HK.out.2.2.2 with h | ⟨b, off, h, _⟩
          · exact absurd (by rw [h]; rfl) hkz
          · exact ⟨b, off, h⟩
        obtain ⟨b2, o2, rfl⟩ : ∃ b off, va = some ⟨b, off, none⟩ := by
          rcases HV.out.2.2.2 with h | ⟨b, off, h, _⟩
          · exact absurd (by rw [HEQ.out, h]; rfl) hkz
          · exact ⟨b, off, h⟩
        clear hkz
        have HKC := Lib.hid hKC
        clear hKC
        go_wp2_with fail
        go_loop [35, 5, 6] (fun i _ _ => ∃ m : Nat, m ≤ J2 ∧ i = .int .i64 m) (fun i _ _ => d.keys.length - (intOf i).toNat)
        case atStart => exact ⟨0, Nat.zero_le _, rfl⟩
        case round =>
          obtain ⟨m, hmJ, rfl⟩ := hrel
          by_cases hml : m < d.keys.length
          · have hmv : m < d.vals.length := by have := HEQ.out; omega
            have e1 := HK.out.at m hml
            have e2 := HV.out.at m hmv
            have hm1 := mem_sizes HK.out m hml
            have hm2 := mem_sizes HV.out m hmv
            have hcon := rHas_any _ _ _ d.keys[m] wx (HK.out.takeN m)
            have hlt : (d.keys.take m).length = m := by rw [List.length_take]; omega
            rw [hlt] at hcon
            have ho := okD_at d.keys d.vals m hml hmv
            obtain ⟨X, hX⟩ : ∃ X, d.keys[m] = X := ⟨_, rfl⟩
            obtain ⟨Y, hY⟩ : ∃ Y, d.vals[m] = Y := ⟨_, rfl⟩
            rw [hX] at e1 hm1 hcon ho
            rw [hY] at e2 hm2 ho
            have HW2 := Lib.hid (fun W => rbWord_any X W hm1)
            have HV2 := Lib.hid (fun W => rbValue_any Y W hm2)
            have HC := Lib.hid hcon
            obtain ⟨A2, hA⟩ : ∃ A2, bwC X.data.toList = A2 := ⟨_, rfl⟩
            obtain ⟨M, hM⟩ : ∃ M, memB X (d.keys.take m) = M := ⟨_, rfl⟩
            obtain ⟨V, hV⟩ : ∃ V, bvC Y.data.toList = V := ⟨_, rfl⟩
            rw [hA, hM, hV] at ho
            rw [hA] at HW2
            rw [hM] at HC
            rw [hV] at HV2
            clear hm1 hm2 hcon hlt hX hY hA hM hV
            by_cases hmJ2 : m = J2
            · have hbad : keysC d.keys d.vals = false ∧ okD d.keys d.vals m = false := by
                rcases HE2.out with ⟨he, _⟩ | ⟨_, g1, g2⟩
                · omega
                · subst hmJ2; exact ⟨g2, g1⟩
              rw [HKC.out] at hbad
              cases hbad.1
            · rw [HOK2.out m (by omega)] at ho
              have h3 : A2 = true ∧ M = false ∧ V = true := by revert ho; cases A2 <;> cases M <;> cases V <;> simp
              obtain ⟨rfl, rfl, rfl⟩ := h3
              clear ho
              go_wp2_with (first | (go_at_call 15; refine (HW2.out _).mono ?_; rintro e w2 ⟨rfl, rfl⟩) | (go_at_call 16; refine HC.out.mono ?_; rintro e w2 ⟨rfl, rfl⟩) | (go_at_call 17; refine (HV2.out _).mono ?_; rintro e w2 ⟨rfl, rfl⟩))
              go_round
              case rel => exact ⟨m + 1, by omega, by go_num⟩
              case measure => simp [intOf]; omega
          · go_wp2_with fail
            go_roundw
            case rel => exact ⟨k + 1, by omega, by go_num, HB.out⟩
            case measure => simp [intOf]; omega
    · have hR : ds.all defC = true := by
        rcases HE.out with ⟨_, hr⟩ | ⟨hj, _, _⟩
        · exact hr
        · omega
      have hRR : R = decide (ds.length ≤ 64) := by rw [← HR.out, hR]; rfl
      clear hR
      by_cases h64 : ds.length ≤ 64
      · obtain rfl : R = true := by rw [hRR]; simp [h64]
        clear hRR
        go_wp2_with fail
        go_ret
        exact ⟨by first | rfl | (simp; omega), hb⟩
      · obtain rfl : R = false := by rw [hRR]; simp [h64]
        clear hRR
        go_wp2_with fail
        go_ret
        exact ⟨by first | rfl | (simp; omega), hb⟩
theorem rRight_any (a : Option Addr) (c : Nat) (ds : List Dfn) (w : World) (h : HasDefs w a c ds) : Calls Try.prog 7 #[.slice a ds.length c] w (BoolW (defsC ds) w) := by
  have e : defsC ds = (ds.all defC && decide (ds.length ≤ 64)) := by rw [defsC, Bool.and_comm]
  rw [e]
  rcases h.place with rfl | ⟨b, off, rfl⟩
  · have h2 := h.2.1
    unfold maxLen at h2
    clear h e
    go_enter Try.func7, Try.ntmps7
    go_wp2
    refine wp_loop_rounds 1 ?_
    rw [rounds_succ]
    go_wp2
    go_ret
    exact ⟨rfl, Below.refl _ _⟩
  · exact rRight_some b off c ds w h
end Go.Proofs.Ythodifgohdaedab
