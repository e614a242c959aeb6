/- What matcher.Parse reads is just the texts of the matchers that may be. Mathematics alone. -/
import Derived.Test.YtjkmnanadeffnaaDoorMatX
namespace Go.Proofs.YtjkmnanadeffnaaDoor

theorem index_at (c : UInt8) (x y : Bs) (h : c ∉ x) : Lib.index (x ++ c :: y) [c] = (x.length : Int) := by
  have hat : ∀ (t : Bs) (j : Nat), Lib.occAt t [c] j = true → ∃ u, t.drop j = c :: u := by
    intro t j ho
    have ho : ([c] : Bs).isPrefixOf (t.drop j) = true := ho
    cases hd : t.drop j with
    | nil => rw [hd] at ho; cases ho
    | cons z u =>
      rw [hd] at ho
      simp only [List.isPrefixOf, Bool.and_true, beq_iff_eq] at ho
      exact ⟨u, by rw [← ho]⟩
  have hx0 : ∀ j, j < x.length → Lib.occAt (x ++ c :: y) [c] j ≠ true := by
    intro j hlt ho
    obtain ⟨u, hu⟩ := hat _ _ ho
    rw [List.drop_append_of_le_length (by omega)] at hu
    have hn : x.drop j ≠ [] := by simp; omega
    cases hd : x.drop j with
    | nil => exact hn hd
    | cons z v =>
      rw [hd] at hu
      simp only [List.cons_append, List.cons.injEq] at hu
      exact h (List.mem_of_mem_drop (i := j) (by rw [hd, hu.1]; simp))
  have hxl : Lib.occAt (x ++ c :: y) [c] x.length = true := by
    show ([c] : Bs).isPrefixOf ((x ++ c :: y).drop x.length) = true
    rw [List.drop_left]
    simp [List.isPrefixOf]
  rcases Lib.index_spec (x ++ c :: y) [c] with ⟨_, h2⟩ | ⟨i, h1, _, h3, h4⟩
  · have := h2 x.length (by simp)
    rw [hxl] at this; cases this
  · have hle : ¬ x.length < i := fun hlt => by
      have := h4 x.length hlt
      rw [hxl] at this; cases this
    have hge : ¬ i < x.length := fun hlt => hx0 i hlt h3
    rw [h1]; congr 1; omega
theorem index_found {c : UInt8} {s : Bs} (h : 0 ≤ Lib.index s [c]) : s = s.take (Lib.index s [c]).toNat ++ c :: s.drop ((Lib.index s [c]).toNat + 1) := by
  rcases Lib.index_spec s [c] with ⟨h1, _⟩ | ⟨i, h1, _, h3, _⟩
  · omega
  · have e : ((i : Int)).toNat = i := by omega
    rw [h1, e]
    have hat : s.drop i = c :: s.drop (i + 1) := by
      have ho : ([c] : Bs).isPrefixOf (s.drop i) = true := h3
      cases hd : s.drop i with
      | nil => rw [hd] at ho; cases ho
      | cons y t =>
        rw [hd] at ho
        simp only [List.isPrefixOf, Bool.and_true, beq_iff_eq] at ho
        have : s.drop (i + 1) = t := by rw [← List.drop_drop, hd]; rfl
        rw [this, ← ho]
    rw [← hat, List.take_append_drop]
theorem cut_at (c : UInt8) (x y : Bs) (h : c ∉ x) : Lib.cut (x ++ c :: y) [c] = (x, y, true) := by
  unfold Lib.cut
  rw [index_at c x y h, if_pos (by omega)]
  have e : ((x.length : Int)).toNat = x.length := by omega
  rw [e, List.take_left, ← List.drop_drop, List.drop_left]
  rfl
theorem cut_found {s : Bs} (h : pOpen s = true) : s = pHead s ++ 34 :: pTail s := by
  unfold pOpen Lib.cut at h
  unfold pHead pTail Lib.cut
  by_cases h0 : 0 ≤ Lib.index s [34]
  · simp only [if_pos h0]
    exact index_found h0
  · rw [if_neg h0] at h; cases h
theorem shut_found {s : Bs} (h : pShut s = true) : pTail s = pWords s ++ [34] := by
  unfold pShut at h
  unfold pWords Lib.trimSuffix
  rw [if_pos h]
  obtain ⟨t, ht⟩ := List.isSuffixOf_iff_suffix.1 (show ([34] : Bs).isSuffixOf (pTail s) = true from h)
  rw [← ht]
  simp
theorem splitW_data (T : Bs) : (splitW T).map (·.data.toList) = Lib.splitK [124] 0 (min 9 (T.length + 1) - 1) T := by
  unfold splitW
  rw [Lib.splitB_data]
theorem joinW_splitW (T : Bs) : joinW (splitW T) = T := by
  rw [joinW_B, splitW_data]
  exact (joinB_split _ T).1
theorem data_inj : ∀ (a b : List ByteArray), a.map (·.data.toList) = b.map (·.data.toList) → a = b
  | [], [], _ => rfl
  | [], _ :: _, h => by simp at h
  | _ :: _, [], h => by simp at h
  | x :: a, y :: b, h => by
    simp only [List.map_cons, List.cons.injEq] at h
    have e : x = y := by
      cases x; cases y
      simp only [Array.toList_inj] at h
      rw [h.1]
    rw [e, data_inj a b h.2]
theorem joinB_len : ∀ (ws : List Bs), ws.length ≤ (joinB ws).length + 1
  | [] => by simp
  | [x] => by simp
  | x :: y :: r => by
    have ih := joinB_len (y :: r)
    have hj : joinB (x :: y :: r) = x ++ 124 :: joinB (y :: r) := by simp [joinB]
    rw [hj]
    simp at ih ⊢
    omega
theorem wordsC_all {ws : List ByteArray} (h : wordsC ws = true) : ∀ x ∈ ws, wordC x.data.toList = true := by
  intro x hx
  obtain ⟨i, hi, rfl⟩ := List.getElem_of_mem hx
  have h' : okW ws i = true := by
    unfold wordsC at h
    exact List.all_eq_true.1 h i (List.mem_range.2 hi)
  unfold okW at h'
  rw [List.getElem?_eq_getElem hi] at h'
  simp only [Bool.and_eq_true] at h'
  exact h'.1
theorem splitW_joinW (ws : List ByteArray) (hr : wordsC ws = true) (h1 : 1 ≤ ws.length) (h8 : ws.length ≤ 8) : splitW (joinW ws) = ws := by
  apply data_inj
  rw [splitW_data, joinW_B]
  have hl := joinB_len (ws.map (·.data.toList))
  rw [List.length_map] at hl
  refine split_join _ _ ?_ ?_ ?_
  · intro e
    have := congrArg List.length e
    simp at this
    subst this; simp at h1
  · intro x hx
    obtain ⟨y, hy, rfl⟩ := List.mem_map.1 hx
    have hw := wordsC_all hr y hy
    unfold wordC at hw
    simp only [Bool.and_eq_true, List.all_eq_true] at hw
    intro hc
    have := hw.2 _ hc
    revert this; decide
  · rw [List.length_map]; omega

theorem parseM_text (m : Mat) (hr : rightM m = true) : parseM (textM m) = some m := by
  obtain ⟨hn, h1, h4, hw, hl1, hl8, _⟩ := (rightM_iff m).1 hr
  have hnm : ∀ b ∈ m.name.data.toList, wrdC b = true := by
    unfold nameC at hn
    simp only [Bool.and_eq_true, List.all_eq_true] at hn
    exact hn.2
  have hs : ∃ a t, signT m.how = a :: t ∧ ([61, 33] : Bs).contains a = true ∧ (34 : UInt8) ∉ a :: t := by
    rcases (by omega : m.how = 1 ∨ m.how = 2 ∨ m.how = 3 ∨ m.how = 4) with e | e | e | e <;> rw [e]
    · exact ⟨61, [], rfl, by decide, by decide⟩
    · exact ⟨33, [61], rfl, by decide, by decide⟩
    · exact ⟨61, [126], rfl, by decide, by decide⟩
    · exact ⟨33, [126], rfl, by decide, by decide⟩
  obtain ⟨a, t, hst, ha, h34⟩ := hs
  have hno : (34 : UInt8) ∉ m.name.data.toList ++ signT m.how := by
    rw [List.mem_append, hst]
    rintro (h | h)
    · have := hnm _ h; revert this; decide
    · exact h34 h
  have hcut : Lib.cut (textM m) [34] = (m.name.data.toList ++ signT m.how, joinW m.words ++ [34], true) := by
    unfold textM
    exact cut_at 34 _ _ hno
  have eH : pHead (textM m) = m.name.data.toList ++ signT m.how := by unfold pHead; rw [hcut]
  have eT : pTail (textM m) = joinW m.words ++ [34] := by unfold pTail; rw [hcut]
  have eO : pOpen (textM m) = true := by unfold pOpen; rw [hcut]
  have eS : pShut (textM m) = true := by
    unfold pShut; rw [eT]
    exact List.isSuffixOf_iff_suffix.2 ⟨_, rfl⟩
  have eW : pWords (textM m) = joinW m.words := by
    have := shut_found eS
    rw [eT] at this
    exact (List.append_cancel_right this).symm
  have eA : pAt (textM m) = (m.name.data.toList.length : Int) := by
    unfold pAt
    rw [eH]
    rcases indexAny_spec [61, 33] (m.name.data.toList ++ signT m.how) with ⟨_, h2⟩ | ⟨i, hi, e, h2, h3⟩
    · have := h2 a (by rw [hst]; simp)
      rw [ha] at this; cases this
    · rw [e]
      have hge : ¬ i < m.name.data.toList.length := fun hlt => by
        rw [List.getElem_append_left hlt] at h2
        have := hnm _ (List.getElem_mem hlt)
        generalize m.name.data.toList[i] = b at h2 this
        simp only [List.contains_cons, List.contains_nil, Bool.or_false, Bool.or_eq_true, beq_iff_eq] at h2
        rcases h2 with rfl | rfl <;> revert this <;> decide
      have hle : ¬ m.name.data.toList.length < i := fun hlt => by
        have hm : a ∈ (m.name.data.toList ++ signT m.how).take i := by
          rw [hst, List.take_append, List.mem_append]
          right
          obtain ⟨k, hk⟩ : ∃ k, i - m.name.data.toList.length = k + 1 := ⟨i - m.name.data.toList.length - 1, by omega⟩
          rw [hk, List.take_succ_cons]; simp
        have := h3 a hm
        rw [ha] at this; cases this
      congr 1; omega
  have eM : pMat (textM m) = m := by
    unfold pMat
    rw [eH, eA, eW, splitW_joinW m.words hw hl1 hl8]
    have e : ((m.name.data.toList.length : Int)).toNat = m.name.data.toList.length := by omega
    rw [e, List.take_left, List.drop_left, howC_sign m.how h1 h4]
  unfold parseM
  have hok : pOk (textM m) = true := by
    unfold pOk
    rw [eO, eS, eA]
    simp
  rw [if_pos hok, eM, if_pos hr]
theorem parseM_iff (s : Bs) (m : Mat) : parseM s = some m ↔ rightM m = true ∧ textM m = s := by
  constructor
  · intro h
    unfold parseM at h
    by_cases hok : pOk s = true
    · rw [if_pos hok] at h
      by_cases hr : rightM (pMat s) = true
      · rw [if_pos hr] at h
        cases h
        refine ⟨hr, ?_⟩
        unfold pOk at hok
        simp only [Bool.and_eq_true] at hok
        obtain ⟨ho, hsh, _⟩ := hok
        obtain ⟨_, h1, h4, _⟩ := (rightM_iff _).1 hr
        have hw : howC ((pHead s).drop (pAt s).toNat) ≠ 0 := by
          have : (pMat s).how = howC ((pHead s).drop (pAt s).toNat) := rfl
          omega
        have hsg := (howC_some hw).2.2
        show ((pHead s).take (pAt s).toNat) ++ signT (howC ((pHead s).drop (pAt s).toNat)) ++ 34 :: (joinW (splitW (pWords s)) ++ [34]) = s
        rw [hsg, List.take_append_drop, joinW_splitW, ← shut_found hsh]
        exact (cut_found ho).symm
      · rw [if_neg hr] at h; cases h
    · rw [if_neg hok] at h; cases h
  · rintro ⟨hr, rfl⟩
    exact parseM_text m hr
end Go.Proofs.YtjkmnanadeffnaaDoor
