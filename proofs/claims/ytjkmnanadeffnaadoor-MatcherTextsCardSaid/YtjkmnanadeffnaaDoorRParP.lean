/- The document's own reader of matchers: which matcher it makes of a text, for each way to hold. Mathematics alone. -/
import Derived.Test.YtjkmnanadeffnaaDoorMatY
namespace Go.Proofs.YtjkmnanadeffnaaDoor

/-- the cuts of a text at its bars, behind what stands ahead -/
def splitL (now : Bs) : Bs → List Bs
  | [] => [now]
  | b :: l => if b = 124 then now :: splitL [] l else splitL (now ++ [b]) l
theorem splitL_run : ∀ (x now r : Bs), (124 : UInt8) ∉ x → splitL now (x ++ r) = splitL (now ++ x) r
  | [], now, r, _ => by simp
  | b :: x, now, r, h => by
    have hb : ¬ b = 124 := fun e => h (by simp [e])
    rw [List.cons_append, splitL, if_neg hb, splitL_run x (now ++ [b]) r (fun hx => h (by simp [hx]))]
    simp
theorem splitL_join : ∀ (ws : List Bs), ws ≠ [] → (∀ x ∈ ws, (124 : UInt8) ∉ x) → splitL [] (joinB ws) = ws
  | [], h, _ => absurd rfl h
  | [x], _, hx => by
    have := splitL_run x [] [] (hx x (by simp))
    simp [joinB] at this ⊢
    rw [this]; rfl
  | x :: y :: r, _, hx => by
    have hj : joinB (x :: y :: r) = x ++ 124 :: joinB (y :: r) := by simp [joinB]
    have ih := splitL_join (y :: r) (by simp) (fun z hz => hx z (by simp [hz]))
    rw [hj, splitL_run x [] _ (hx x (by simp)), splitL, if_pos rfl, ih]
    simp

/-- n is where the name ends -/
def IsEnd (L : Bs) (n : Nat) : Prop := n ≤ L.length ∧ (∀ j (h : j < L.length), j < n → L[j] ≠ 61 ∧ L[j] ≠ 33) ∧ (∀ h : n < L.length, L[n] = 61 ∨ L[n] = 33)
/-- what stands behind the quote at k, without the last byte -/
def midL (L : Bs) (i : Nat) : Bs := (L.drop i).take (L.length - 1 - i)
theorem midL_end (L : Bs) (i : Nat) (h : L.length - 1 ≤ i) : midL L i = [] := by
  rw [midL, show L.length - 1 - i = 0 by omega]; rfl
theorem midL_step (L : Bs) (i : Nat) (h : i < L.length - 1) : midL L i = L[i]'(by omega) :: midL L (i + 1) := by
  rw [midL, midL, show L.length - 1 - i = (L.length - 1 - (i + 1)) + 1 by omega, List.drop_eq_getElem_cons (by omega), List.take_succ_cons]
def candM (L : Bs) (n : Nat) (how : Int) : Mat := ⟨⟨(L.take n).toArray⟩, how, (splitL [] (midL L (n + (signT how).length + 1))).map fun l => ⟨l.toArray⟩⟩
def CondM (L : Bs) (n : Nat) (how : Int) : Prop := n + (signT how).length < L.length ∧ (L.drop n).take (signT how).length = signT how ∧ L[n + (signT how).length]? = some 34

theorem name_no {l : Bs} (h : nameC l = true) : ∀ b ∈ l, b ≠ 61 ∧ b ≠ 33 := by
  intro b hb
  unfold nameC at h
  simp only [Bool.and_eq_true, List.all_eq_true] at h
  have hr := h.2 b hb
  constructor <;> (rintro rfl; revert hr; decide)
theorem sign_head {how : Int} (h1 : 1 ≤ how) (h4 : how ≤ 4) : ∃ b t, signT how = b :: t ∧ (b = 61 ∨ b = 33) := by
  have hc : how = 1 ∨ how = 2 ∨ how = 3 ∨ how = 4 := by omega
  rcases hc with rfl | rfl | rfl | rfl
  · exact ⟨61, [], rfl, .inl rfl⟩
  · exact ⟨33, [61], rfl, .inr rfl⟩
  · exact ⟨61, [126], rfl, .inl rfl⟩
  · exact ⟨33, [126], rfl, .inr rfl⟩
theorem word_no {l : Bs} (h : wordC l = true) : (124 : UInt8) ∉ l := by
  intro hb
  unfold wordC at h
  simp only [Bool.and_eq_true, List.all_eq_true] at h
  have := h.2 _ hb
  revert this; decide

theorem cand_of {L : Bs} {n : Nat} {m : Mat} (hp : parseM L = some m) (hn : IsEnd L n) : CondM L n m.how ∧ candM L n m.how = m := by
  obtain ⟨hr, ht⟩ := (parseM_iff L m).1 hp
  obtain ⟨hnm, h1, h4, hw, hl1, hl8, _⟩ := (rightM_iff m).1 hr
  obtain ⟨b, t, hs, hb⟩ := sign_head h1 h4
  have hno := name_no hnm
  obtain ⟨N, hN⟩ : ∃ N, m.name.data.toList = N := ⟨_, rfl⟩
  obtain ⟨S, hS⟩ : ∃ S, signT m.how = S := ⟨_, rfl⟩
  obtain ⟨J, hJ⟩ : ∃ J, joinW m.words = J := ⟨_, rfl⟩
  have hL : L = N ++ (S ++ 34 :: (J ++ [34])) := by rw [← ht, textM, hN, hS, hJ, List.append_assoc]
  rw [hN] at hno
  rw [hS] at hs
  have hlen : L.length = N.length + S.length + 1 + J.length + 1 := by rw [hL]; simp; omega
  have hSl : 1 ≤ S.length := by rw [hs]; simp
  -- where the name ends
  obtain ⟨e1, e2, e3⟩ := hn
  have hat : ∀ j (h : j < N.length), L[j]'(by omega) = N[j] := by
    intro j h
    have : L[j]? = some N[j] := by rw [hL, List.getElem?_append_left h]; simp [h]
    exact (List.getElem?_eq_some_iff.1 this).2
  have hatS : L[N.length]'(by omega) = b := by
    have : L[N.length]? = some b := by rw [hL, List.getElem?_append_right (Nat.le_refl _), Nat.sub_self, hs]; rfl
    exact (List.getElem?_eq_some_iff.1 this).2
  have hnn : n = N.length := by
    rcases Nat.lt_trichotomy n N.length with h | h | h
    · exfalso
      have h3 := e3 (by omega)
      have h4 := hno N[n] (List.getElem_mem h)
      rw [hat n h] at h3
      rcases h3 with h3 | h3
      · exact h4.1 h3
      · exact h4.2 h3
    · exact h
    · exfalso
      have h2 := e2 N.length (by omega) h
      rw [hatS] at h2
      rcases hb with hb | hb
      · exact h2.1 hb
      · exact h2.2 hb
  subst hnn
  have hd : L.drop N.length = S ++ 34 :: (J ++ [34]) := by rw [hL, List.drop_left]
  refine ⟨⟨by rw [hS]; omega, by rw [hS, hd, List.take_left], ?_⟩, ?_⟩
  · rw [hS, hL, List.getElem?_append_right (by omega), show N.length + S.length - N.length = S.length by omega, List.getElem?_append_right (Nat.le_refl _), Nat.sub_self]; rfl
  · have hmid : midL L (N.length + S.length + 1) = J := by
      rw [midL, show N.length + S.length + 1 = N.length + (S.length + 1) by omega, ← List.drop_drop, hd, show S ++ 34 :: (J ++ [34]) = (S ++ [34]) ++ (J ++ [34]) by simp, show S.length + 1 = (S ++ [34]).length by simp, List.drop_left, hlen]
      have e5 : N.length + S.length + 1 + J.length + 1 - 1 - (N.length + (S ++ [34]).length) = J.length := by
        simp only [List.length_append, List.length_cons, List.length_nil]; omega
      rw [e5, List.take_left]
    have hsp : splitL [] J = m.words.map (·.data.toList) := by
      rw [← hJ, joinW_B]
      refine splitL_join _ (fun e => ?_) (fun x hx => ?_)
      · have := congrArg List.length e; simp at this; rw [this] at hl1; simp at hl1
      · obtain ⟨s, hs', rfl⟩ := List.mem_map.1 hx
        exact word_no (wordsC_all hw s hs')
    unfold candM
    rw [hS, hmid, hsp, hL, List.take_left, ← hN]
    have hid : (m.words.map (·.data.toList)).map (fun l => (⟨l.toArray⟩ : ByteArray)) = m.words := by
      rw [List.map_map]
      conv => rhs; rw [← List.map_id m.words]
      exact List.map_congr_left fun s _ => by simp
    rw [hid]
theorem cand_ok {L : Bs} {n : Nat} {how : Int} (hr : rightM (candM L n how) = true) (ht : textM (candM L n how) = L) : parseM L = some (candM L n how) := (parseM_iff _ _).2 ⟨hr, ht⟩
end Go.Proofs.YtjkmnanadeffnaaDoor
