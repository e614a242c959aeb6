/- The contracts of the document's own small, Word, Name, Plain and Quote of layer 5. -/
import Derived.Test.YtolbhhokpelchaaDoorOutJ
namespace Go.Proofs.YtolbhhokpelchaaDoor
open Go.RowKit

set_option maxHeartbeats 1600000 in
theorem rSmall_any (c : UInt8) (w : World) : Calls Tryd.prog 73 #[.int .u8 (c.toNat : Int)] w (BoolS (bwB c) w) := by
  have e : bwB c = decide (97 ≤ c.toNat ∧ c.toNat ≤ 122 ∨ 48 ≤ c.toNat ∧ c.toNat ≤ 57 ∨ c.toNat = 95) := rfl
  rw [e]
  clear e
  generalize c.toNat = n
  by_cases h5 : n = 95
  · subst h5
    go_enter Tryd.func73, Tryd.ntmps73
    go_wp2
    go_ret
    exact ⟨rfl, rfl⟩
  have f5 : ((n : Int) == 95) = false := beq_eq_false_iff_ne.2 (by omega)
  by_cases h1 : 97 ≤ n <;> by_cases h2 : n ≤ 122 <;> by_cases h3 : 48 ≤ n <;> by_cases h4 : n ≤ 57 <;> (try omega)
  all_goals
    obtain ⟨R, hR⟩ : ∃ R, decide (97 ≤ n ∧ n ≤ 122 ∨ 48 ≤ n ∧ n ≤ 57 ∨ n = 95) = R := ⟨_, rfl⟩
    have hR2 := hR
    simp only [h1, h2, h3, h4, h5, and_true, and_false, or_false, or_true, decide_true, decide_false] at hR2
    rw [hR]
    clear hR h5
    subst hR2
    have q1 : decide (97 ≤ (n : Int)) = decide (97 ≤ n) := decide_eq_decide.2 (by omega)
    have q2 : decide ((n : Int) ≤ 122) = decide (n ≤ 122) := decide_eq_decide.2 (by omega)
    have q3 : decide (48 ≤ (n : Int)) = decide (48 ≤ n) := decide_eq_decide.2 (by omega)
    have q4 : decide ((n : Int) ≤ 57) = decide (n ≤ 57) := decide_eq_decide.2 (by omega)
    simp only [h1, h2, h3, h4, decide_true, decide_false] at q1 q2 q3 q4
    go_enter Tryd.func73, Tryd.ntmps73
    go_wp2
    go_ret
    exact ⟨rfl, rfl⟩

set_option maxHeartbeats 1600000 in
theorem rWordN_any (s : ByteArray) (w : World) (hs : s.size ≤ maxLen) : Calls Tryd.prog 26 #[.string s] w (BoolS (owC s.data.toList) w) := by
  unfold maxLen at hs
  have hl := lenB s
  obtain ⟨J, hJ, hok, hend⟩ : ∃ J, J ≤ s.size ∧ (∀ k (h : k < s.size), k < J → owB s[k] = true) ∧ (J = s.size ∧ owC s.data.toList = decide (s.size ≤ 200) ∨ ∃ h : J < s.size, owB s[J] = false ∧ owC s.data.toList = false) := by
    by_cases hall : s.data.toList.all owB = true
    · exact ⟨s.size, Nat.le_refl _, fun k h _ => bytesAll hall k h, .inl ⟨rfl, by unfold owC; rw [hl, hall]; simp⟩⟩
    · obtain ⟨j, hj, hbad, hok⟩ := bytesNot s hall
      exact ⟨j, by omega, fun k _ hk => hok k hk, .inr ⟨hj, hbad, by unfold owC; simp only [Bool.not_eq_true] at hall; rw [hall]; simp⟩⟩
  obtain ⟨R, hR⟩ : ∃ R, owC s.data.toList = R := ⟨_, rfl⟩
  rw [hR] at hend ⊢
  have HA := Lib.hid hok
  have HE := Lib.hid hend
  clear hR hl hok hend
  go_enter Tryd.func26, Tryd.ntmps26
  go_wp2
  go_loop [3] (fun i => ∃ k : Nat, k ≤ J ∧ i = .int .i64 k) (fun i => s.size - (intOf i).toNat)
  case atStart => exact ⟨0, Nat.zero_le _, rfl⟩
  case round =>
    obtain ⟨k, hk, rfl⟩ := hrel
    by_cases hkl : k < s.size
    · by_cases hkJ : k = J
      · subst hkJ
        rcases HE.out with ⟨h, _⟩ | ⟨_, hbad, hR⟩
        · omega
        · subst hR
          simp only [owB, decide_eq_false_iff_not] at hbad
          obtain ⟨n, hn⟩ : ∃ n, s[k].toNat = n := ⟨_, rfl⟩
          rw [hn] at hbad
          by_cases a1 : 32 ≤ n
          · have a2 : ¬ n ≤ 126 := fun h => hbad ⟨a1, h⟩
            clear hbad
            go_wp2
            go_ret
            exact ⟨rfl, rfl⟩
          · clear hbad
            go_wp2
            go_ret
            exact ⟨rfl, rfl⟩
      · have hgood := HA.out k hkl (by omega)
        simp only [owB, decide_eq_true_eq] at hgood
        obtain ⟨a1, a2⟩ := hgood
        go_wp2
        go_round
        case rel => exact ⟨k + 1, by omega, by go_num⟩
        case measure => simp [intOf]; omega
    · rcases HE.out with ⟨_, hR⟩ | ⟨h, _⟩
      · have hd : decide ((s.size : Int) ≤ 200) = R := by rw [hR]; exact decide_eq_decide.2 (by omega)
        have hd2 : decide (s.size ≤ 200) = R := hR.symm
        clear hR
        go_wp2
        go_ret
        exact ⟨rfl, rfl⟩
      · omega

set_option maxHeartbeats 3200000 in
set_option maxRecDepth 100000 in
theorem rPlain_any (s : ByteArray) (w : World) (hs : s.size ≤ maxLen) : Calls Tryd.prog 58 #[.string s] w (BoolS (plC s.data.toList) w) := by
  unfold maxLen at hs
  have hl := lenB s
  obtain ⟨J, hJ, hok, hend⟩ : ∃ J, J ≤ s.size ∧ (∀ k (h : k < s.size), k < J → plB s[k] = true) ∧ (J = s.size ∧ s.data.toList.all plB = true ∨ ∃ h : J < s.size, plB s[J] = false ∧ s.data.toList.all plB = false) := by
    by_cases hall : s.data.toList.all plB = true
    · exact ⟨s.size, Nat.le_refl _, fun k h _ => bytesAll hall k h, .inl ⟨rfl, hall⟩⟩
    · obtain ⟨j, hj, hbad, hok⟩ := bytesNot s hall
      exact ⟨j, by omega, fun k _ hk => hok k hk, .inr ⟨hj, hbad, by simpa using hall⟩⟩
  have hR0 : plC s.data.toList = (s.data.toList.all plB && decide (1 ≤ s.size) && !decide ((s.data.toList.getD 0 0).toNat = 45)) := by rw [plC, hl]
  have h0 : ∀ h : 0 < s.size, (s.data.toList.getD 0 0).toNat = s[0].toNat := fun h => by
    have : (0 : Nat) < s.data.toList.length := by rw [hl]; exact h
    rw [List.getD_eq_getElem?_getD, List.getElem?_eq_getElem this]
    rfl
  obtain ⟨A, hA⟩ : ∃ A, s.data.toList.all plB = A := ⟨_, rfl⟩
  obtain ⟨R, hR⟩ : ∃ R, plC s.data.toList = R := ⟨_, rfl⟩
  rw [hR] at hR0 ⊢
  rw [hA] at hR0 hend
  have HA := Lib.hid hok
  have HE := Lib.hid hend
  have HR := Lib.hid hR0
  have H0 := Lib.hid h0
  clear hR hl hok hend hR0 hA h0
  go_enter Tryd.func58, Tryd.ntmps58
  go_wp2
  go_loop [3, 4] (fun i _ => ∃ k : Nat, k ≤ J ∧ i = .int .i64 k) (fun i _ => s.size - (intOf i).toNat)
  case atStart => exact ⟨0, Nat.zero_le _, rfl⟩
  case round =>
    obtain ⟨k, hk, rfl⟩ := hrel
    by_cases hkl : k < s.size
    · have HS := Lib.hid (fun W => rSmall_any s[k] W)
      have hb : plB s[k] = decide (97 ≤ s[k].toNat ∧ s[k].toNat ≤ 122 ∨ 65 ≤ s[k].toNat ∧ s[k].toNat ≤ 90 ∨ 48 ≤ s[k].toNat ∧ s[k].toNat ≤ 57 ∨ s[k].toNat = 95 ∨ s[k].toNat = 45 ∨ s[k].toNat = 46 ∨ s[k].toNat = 47 ∨ s[k].toNat = 58) := rfl
      have hc : bwB s[k] = decide (97 ≤ s[k].toNat ∧ s[k].toNat ≤ 122 ∨ 48 ≤ s[k].toNat ∧ s[k].toNat ≤ 57 ∨ s[k].toNat = 95) := rfl
      have hgood0 : k ≠ J → plB s[k] = true := fun h => HA.out k hkl (by omega)
      have hbad0 : k = J → plB s[k] = false ∧ A = false := fun h => by
        rcases HE.out with ⟨h1, _⟩ | ⟨_, h2, h3⟩
        · omega
        · subst h; exact ⟨h2, h3⟩
      obtain ⟨B, hB⟩ : ∃ B, bwB s[k] = B := ⟨_, rfl⟩
      obtain ⟨P, hP⟩ : ∃ P, plB s[k] = P := ⟨_, rfl⟩
      rw [hB] at HS hc
      rw [hP] at hb hgood0 hbad0
      clear hB hP
      by_cases hkJ : k = J
      · obtain ⟨rfl, rfl⟩ := hbad0 hkJ
        obtain rfl : R = false := by rw [HR.out]; rfl
        have hq : ¬ (97 ≤ s[k].toNat ∧ s[k].toNat ≤ 122 ∨ 65 ≤ s[k].toNat ∧ s[k].toNat ≤ 90 ∨ 48 ≤ s[k].toNat ∧ s[k].toNat ≤ 57 ∨ s[k].toNat = 95 ∨ s[k].toNat = 45 ∨ s[k].toNat = 46 ∨ s[k].toNat = 47 ∨ s[k].toNat = 58) := of_decide_eq_false hb.symm
        obtain rfl : B = false := by rw [hc]; exact decide_eq_false (by omega)
        have f1 : ((s[k].toNat : Int) != 45) = true := bne_iff_ne.2 (by omega)
        have f2 : ((s[k].toNat : Int) != 46) = true := bne_iff_ne.2 (by omega)
        have f3 : ((s[k].toNat : Int) != 47) = true := bne_iff_ne.2 (by omega)
        have f4 : ((s[k].toNat : Int) != 58) = true := bne_iff_ne.2 (by omega)
        have g : s[k].toNat < 65 ∨ ¬ s[k].toNat < 65 ∧ 90 < s[k].toNat := by omega
        clear hq hb hc hgood0 hbad0 hkJ hk
        rcases g with g | ⟨g, g2⟩
        all_goals
          go_wp2_with (go_at_call 73; refine (HS.out _).mono ?_; rintro e w2 ⟨rfl, rfl⟩)
          go_ret
          exact ⟨rfl, rfl⟩
      · obtain rfl := hgood0 hkJ
        have hq : (97 ≤ s[k].toNat ∧ s[k].toNat ≤ 122 ∨ 65 ≤ s[k].toNat ∧ s[k].toNat ≤ 90 ∨ 48 ≤ s[k].toNat ∧ s[k].toNat ≤ 57 ∨ s[k].toNat = 95 ∨ s[k].toNat = 45 ∨ s[k].toNat = 46 ∨ s[k].toNat = 47 ∨ s[k].toNat = 58) := of_decide_eq_true hb.symm
        cases B with
        | true =>
          clear hq hb hc hgood0 hbad0
          go_wp2_with (go_at_call 73; refine (HS.out _).mono ?_; rintro e w2 ⟨rfl, rfl⟩)
          go_round
          case rel => exact ⟨k + 1, by omega, by go_num⟩
          case measure => simp [intOf]; omega
        | false =>
          have hc2 : ¬ (97 ≤ s[k].toNat ∧ s[k].toNat ≤ 122 ∨ 48 ≤ s[k].toNat ∧ s[k].toNat ≤ 57 ∨ s[k].toNat = 95) := of_decide_eq_false hc.symm
          have hq2 : 65 ≤ s[k].toNat ∧ s[k].toNat ≤ 90 ∨ s[k].toNat = 45 ∨ s[k].toNat = 46 ∨ s[k].toNat = 47 ∨ s[k].toNat = 58 := by omega
          clear hq hb hc hgood0 hbad0 hc2
          have g : (¬ s[k].toNat < 65 ∧ ¬ 90 < s[k].toNat) ∨ (s[k].toNat < 65 ∧ ((s[k].toNat : Int) != 45) = false) ∨ (s[k].toNat < 65 ∧ ((s[k].toNat : Int) != 45) = true ∧ ((s[k].toNat : Int) != 46) = false) ∨ (s[k].toNat < 65 ∧ ((s[k].toNat : Int) != 45) = true ∧ ((s[k].toNat : Int) != 46) = true ∧ ((s[k].toNat : Int) != 47) = false) ∨ (s[k].toNat < 65 ∧ ((s[k].toNat : Int) != 45) = true ∧ ((s[k].toNat : Int) != 46) = true ∧ ((s[k].toNat : Int) != 47) = true ∧ ((s[k].toNat : Int) != 58) = false) := by
            rcases hq2 with ⟨h1, h2⟩ | h | h | h | h
            · exact .inl ⟨by omega, by omega⟩
            · exact .inr (.inl ⟨by omega, by rw [h]; rfl⟩)
            · exact .inr (.inr (.inl ⟨by omega, by rw [h]; rfl, by rw [h]; rfl⟩))
            · exact .inr (.inr (.inr (.inl ⟨by omega, by rw [h]; rfl, by rw [h]; rfl, by rw [h]; rfl⟩)))
            · exact .inr (.inr (.inr (.inr ⟨by omega, by rw [h]; rfl, by rw [h]; rfl, by rw [h]; rfl, by rw [h]; rfl⟩)))
          clear hq2
          rcases g with ⟨g1, g2⟩ | ⟨g1, g2⟩ | ⟨g1, g2, g3⟩ | ⟨g1, g2, g3, g4⟩ | ⟨g1, g2, g3, g4, g5⟩
          all_goals
            go_wp2_with (go_at_call 73; refine (HS.out _).mono ?_; rintro e w2 ⟨rfl, rfl⟩)
            go_round
            case rel => exact ⟨k + 1, by omega, by go_num⟩
            case measure => simp [intOf]; omega
    · rcases HE.out with ⟨_, rfl⟩ | ⟨h, _⟩
      · by_cases hz : 0 < s.size
        · have h45 := H0.out hz
          obtain ⟨U, hU⟩ : ∃ U, decide (s[0].toNat = 45) = U := ⟨_, rfl⟩
          have hRU : R = !U := by rw [HR.out, h45, hU, decide_eq_true (by omega)]; rfl
          have hn45 : ((s[0].toNat : Int) != 45) = !U := by
            rw [← hU]
            by_cases h : s[0].toNat = 45
            · rw [h]; rfl
            · rw [decide_eq_false h, bne_iff_ne.2 (by omega)]; rfl
          have HRU := Lib.hid hRU
          clear hRU h45 hU
          cases U
          all_goals
            go_wp2
            go_ret
            exact ⟨by rw [HRU.out]; try rfl, rfl⟩
        · obtain rfl : R = false := by rw [HR.out, decide_eq_false (by omega)]; simp
          go_wp2
          go_ret
          exact ⟨rfl, rfl⟩
      · omega

set_option maxHeartbeats 1600000 in
set_option maxRecDepth 100000 in
theorem rQuote_any (s : ByteArray) (w : World) (hs : s.size ≤ 1000000) :
    Calls Tryd.prog 36 #[.string s] w (StrB (wordT s) w) := by
  have hpl := fun W => rPlain_any s W (by unfold maxLen; omega)
  by_cases hpc : plC s.data.toList = true
  · rw [hpc] at hpl
    rw [wordT, if_pos hpc]
    have HP := Lib.hid hpl
    clear hpl hpc
    go_enter Tryd.func36, Tryd.ntmps36
    go_wp2_with (go_at_call 58; refine (HP.out _).mono ?_; rintro e w2 ⟨rfl, rfl⟩)
    go_ret
    exact ⟨rfl, Below.refl _ _⟩
  rw [wordT, if_neg hpc]
  rw [Bool.not_eq_true] at hpc
  rw [hpc] at hpl
  have HP := Lib.hid hpl
  clear hpl hpc
  obtain ⟨i0, hi, hz0, hz1, hz2⟩ := info_partsQ Tryd.infoQ
  have hown1 := OwnB.made 5 w [34] (by simp)
  have hb1 : Below w.heap.size w (w.alloc (.cells (bytesV [34]).toArray 5)) := (Below.refl _ _).alloc (Nat.le_refl _) _
  have hz1' := hb1.size
  go_enter Tryd.func36, Tryd.ntmps36
  go_wp2_with (go_at_call 58; refine (HP.out _).mono ?_; rintro e w2 ⟨rfl, rfl⟩)
  go_loopw [3, 4] (fun u i wr => ∃ k : Nat, k ≤ s.size ∧ i = .int .i64 k ∧ OwnB 5 wr w.heap.size u ([34] ++ quoteL (s.data.toList.take k)) ∧ Below w.heap.size w wr ∧ w.heap.size ≤ wr.heap.size) (fun _ i _ => s.size - (intOf i).toNat)
  case atStart => exact ⟨0, Nat.zero_le _, rfl, by rw [show ([34] ++ quoteL (s.data.toList.take 0) : List UInt8) = [34] by simp [quoteL]]; exact hown1, hb1, hz1'⟩
  case round =>
    clear hown1 hb1 hz1'
    obtain ⟨k, hk, rfl, hown, hb, hz⟩ := hrel
    have hql := quoteL_len (s.data.toList.take k)
    have htl : (s.data.toList.take k).length ≤ k := List.length_take_le _ _
    have hlen : ([34] ++ quoteL (s.data.toList.take k)).length ≤ 4000000 := by simp only [List.length_append, List.length_cons, List.length_nil]; omega
    by_cases hks : k < s.size
    · have hq := quoteL_take s k hks
      obtain ⟨L, hL⟩ : ∃ L, [34] ++ quoteL (s.data.toList.take k) = L := ⟨_, rfl⟩
      rw [hL] at hown hlen
      by_cases h34 : s[k] = 34 ∨ s[k] = 92
      · rw [if_pos h34] at hq
        have h34b : s[k].toNat = 34 ∨ s[k].toNat = 92 := by rw [is34_iff, is92_iff] at h34; exact h34
        have HQ : Hid (L ++ [92] ++ [s[k]] = [34] ++ quoteL (s.data.toList.take (k + 1))) := Lib.hid (by rw [hq, ← hL]; simp)
        clear hq h34 hql htl hL
        have t1 : ((s[k].toNat : Int) == 34) = true ∨ ((s[k].toNat : Int) == 34) = false ∧ ((s[k].toNat : Int) == 92) = true := by
          rcases h34b with h | h
          · exact .inl (by rw [beq_iff_eq]; omega)
          · exact .inr ⟨by rw [beq_eq_false_iff_ne]; omega, by rw [beq_iff_eq]; omega⟩
        clear h34b
        rcases t1 with t1 | ⟨t1, t2⟩
        all_goals
          go_wp2_with (at_builtin; refine (wpList_pushB wr rfl _ _ 48 rfl w.heap.size 5 i0 (.int .u8 0) Tryd.underlying48 hi hz0 hz1 hz2 rfl _ L [92] rfl (by assumption) [.int .u8 92] 1 rfl rfl rfl (by simp; omega) (by assumption) ?_))
          intro v2 w2 hown2 hg2
          have hb2 : Below w.heap.size w w2 := hown.grown hb hz hg2
          have hz2' := Nat.le_trans hz hg2.size
          have hlen2 : (L ++ [92]).length ≤ 4000001 := by simp; omega
          clear hown hg2 hb hz
          go_wp2_with (at_builtin; refine (wpList_pushB w2 rfl _ _ 48 rfl w.heap.size 5 i0 (.int .u8 0) Tryd.underlying48 hi hz0 hz1 hz2 rfl _ (L ++ [92]) [s[k]] rfl (by assumption) [.int .u8 (s[k].toNat : Int)] 1 rfl rfl rfl (by simp; omega) (by assumption) ?_))
          intro v3 w3 hown3 hg3
          have hb3 : Below w.heap.size w w3 := hown2.grown hb2 hz2' hg3
          have hz3' := Nat.le_trans hz2' hg3.size
          clear hown2 hg3 hb2 hz2'
          go_wp2
          go_roundw
          case rel => exact ⟨k + 1, by omega, by go_num, by rw [← HQ.out]; simpa using hown3, hb3, hz3'⟩
          case measure => simp [intOf]; omega
      · rw [if_neg h34] at hq
        rw [is34_iff, is92_iff] at h34
        have t1 : ((s[k].toNat : Int) == 34) = false := by rw [beq_eq_false_iff_ne]; omega
        have t2 : ((s[k].toNat : Int) == 92) = false := by rw [beq_eq_false_iff_ne]; omega
        have HQ : Hid (L ++ [s[k]] = [34] ++ quoteL (s.data.toList.take (k + 1))) := Lib.hid (by rw [hq, ← hL]; simp)
        clear hq h34 hql htl hL
        go_wp2_with (at_builtin; refine (wpList_pushB wr rfl _ _ 48 rfl w.heap.size 5 i0 (.int .u8 0) Tryd.underlying48 hi hz0 hz1 hz2 rfl _ L [s[k]] rfl (by assumption) [.int .u8 (s[k].toNat : Int)] 1 rfl rfl rfl (by simp; omega) (by assumption) ?_))
        intro v3 w3 hown3 hg3
        have hb3 : Below w.heap.size w w3 := hown.grown hb hz hg3
        have hz3' := Nat.le_trans hz hg3.size
        clear hown hg3 hb hz
        go_wp2
        go_roundw
        case rel => exact ⟨k + 1, by omega, by go_num, by rw [← HQ.out]; exact hown3, hb3, hz3'⟩
        case measure => simp [intOf]; omega
    · have hq : s.data.toList.take k = s.data.toList := List.take_of_length_le (by simp; omega)
      obtain ⟨L, hL⟩ : ∃ L, [34] ++ quoteL (s.data.toList.take k) = L := ⟨_, rfl⟩
      rw [hL] at hown hlen
      have HQ : Hid (L ++ [34] = 34 :: (quoteL s.data.toList ++ [34])) := Lib.hid (by rw [← hL, hq]; simp)
      clear hq hL hql htl
      go_wp2_with (at_builtin; refine (wpList_pushB wr rfl _ _ 48 rfl w.heap.size 5 i0 (.int .u8 0) Tryd.underlying48 hi hz0 hz1 hz2 rfl _ L [34] rfl (by assumption) [.int .u8 34] 1 rfl rfl rfl (by simp; omega) (by assumption) ?_))
      intro v3 w3 hown3 hg3
      have hb3 : Below w.heap.size w w3 := hown.grown hb hz hg3
      have hst := OwnB.str hown3 Tryd.underlying48 Tryd.underlying5 Tryd.underlying9
      clear hown hg3 hb hz hown3
      go_wp2
      go_ret
      exact ⟨by rw [HQ.out]; rfl, hb3⟩
end Go.Proofs.YtolbhhokpelchaaDoor
/- How a node is written: its lines. Mathematics alone. -/
namespace Go.Proofs.YtolbhhokpelchaaDoor

def hdNm (k : Int) (nm : ByteArray) : Bs := if k = 3 then nm.data.toList ++ [58] else [45]
mutual
/-- a node's lines, so deep in -/
def Nd.linesT : Nd → Nat → Bs
  | .mk k _ ns xs, d => linesLs k ns xs d
/-- the lines of items, with their names -/
def linesLs : Int → List ByteArray → List Nd → Nat → Bs
  | _, _, [], _ => []
  | k, ns, x :: xs, d => List.replicate (2 * d) 32 ++ (hdNm k (ns.headD ⟨#[]⟩) ++ (if x.items.isEmpty then 32 :: ((flatT x).data.toList ++ [10]) else 10 :: x.linesT (d + 1))) ++ linesLs k ns.tail xs d
end
/-- what stands behind a name, or a dash -/
def behT (x : Nd) (d : Nat) : Bs := if x.items.isEmpty then 32 :: ((flatT x).data.toList ++ [10]) else 10 :: x.linesT d
/-- an item's lines -/
def itemT (k : Int) (nm : ByteArray) (x : Nd) (d : Nat) : Bs := List.replicate (2 * d) 32 ++ (hdNm k nm ++ behT x (d + 1))
theorem linesLs_nil (k : Int) (ns : List ByteArray) (d : Nat) : linesLs k ns [] d = [] := by simp [linesLs]
theorem linesLs_cons (k : Int) (ns : List ByteArray) (x : Nd) (xs : List Nd) (d : Nat) : linesLs k ns (x :: xs) d = itemT k (ns.headD ⟨#[]⟩) x d ++ linesLs k ns.tail xs d := by simp only [linesLs, itemT, behT]
theorem linesT_eq (n : Nd) (d : Nat) : n.linesT d = linesLs n.kind n.names n.items d := by cases n; simp [Nd.linesT, Nd.kind, Nd.names, Nd.items]
def nmAt (ns : List ByteArray) (j : Nat) : ByteArray := ns[j]?.getD ⟨#[]⟩
theorem linesLs_take (k : Int) (d : Nat) : ∀ (xs : List Nd) (ns : List ByteArray) (j : Nat) (h : j < xs.length), linesLs k ns (xs.take (j + 1)) d = linesLs k ns (xs.take j) d ++ itemT k (nmAt ns j) xs[j] d
  | [], _, _, h => by simp at h
  | x :: xs, ns, 0, _ => by
    rw [List.take_succ_cons, linesLs_cons]
    have e : ns.headD ⟨#[]⟩ = nmAt ns 0 := by cases ns <;> rfl
    simp only [List.take_zero, linesLs_nil, e, List.append_nil, List.nil_append, List.getElem_cons_zero]
  | x :: xs, ns, j + 1, h => by
    rw [List.take_succ_cons, List.take_succ_cons, linesLs_cons, linesLs_cons, linesLs_take k d xs ns.tail j (by simpa using h)]
    have e : nmAt ns.tail j = nmAt ns (j + 1) := by cases ns <;> simp [nmAt]
    rw [e]
    simp
theorem linesT_upto (n : Nd) (d j : Nat) (h : j < n.items.length) : linesLs n.kind n.names (n.items.take (j + 1)) d = linesLs n.kind n.names (n.items.take j) d ++ itemT n.kind (nmAt n.names j) n.items[j] d := linesLs_take _ _ _ _ _ h
theorem linesLs_app (k : Int) (d : Nat) : ∀ (xs ys : List Nd) (ns : List ByteArray), linesLs k ns (xs ++ ys) d = linesLs k ns xs d ++ linesLs k (ns.drop xs.length) ys d
  | [], ys, ns => by simp [linesLs_nil]
  | x :: xs, ys, ns => by
    rw [List.cons_append, linesLs_cons, linesLs_cons, linesLs_app k d xs ys ns.tail]
    simp
theorem linesT_split (n : Nd) (d j : Nat) : n.linesT d = linesLs n.kind n.names (n.items.take j) d ++ linesLs n.kind (n.names.drop (n.items.take j).length) (n.items.drop j) d := by
  rw [linesT_eq]
  conv => lhs; rw [← List.take_append_drop j n.items]
  exact linesLs_app _ _ _ _ _
/-- parts, one behind the other -/
def catB (ss : List ByteArray) : Bs := ss.flatMap (·.data.toList)
theorem catB_take (ss : List ByteArray) (k : Nat) (h : k < ss.length) : catB (ss.take (k + 1)) = catB (ss.take k) ++ ss[k].data.toList := by
  unfold catB
  rw [List.take_succ_eq_append_getElem h, List.flatMap_append]
  simp only [List.flatMap_cons, List.flatMap_nil, List.append_nil]
theorem quoteL_le : ∀ (s : Bs), (quoteL s).length ≤ 2 * s.length := fun s => quoteL_len s
theorem flatT_len (n : Nd) : (flatT n).size ≤ 2 * n.word.size + 2 := by
  unfold flatT
  split
  · show 2 ≤ _; omega
  · split
    · show 2 ≤ _; omega
    · unfold wordT
      split
      · omega
      · unfold quoteS
        have := quoteL_le n.word.data.toList
        have h2 : n.word.data.toList.length = n.word.size := lenB n.word
        show (Array.size _) ≤ _
        simp only [List.size_toArray, List.length_cons, List.length_append, List.length_nil]
        omega
end Go.Proofs.YtolbhhokpelchaaDoor
