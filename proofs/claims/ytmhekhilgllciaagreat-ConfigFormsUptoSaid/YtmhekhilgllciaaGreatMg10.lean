/- What matcher.Parse reads: definitions and lengths. -/
import Derived.Test.YtmhekhilgllciaaGreatMg1
import Derived.Lib.Strings
import Derived.Lib.IndexAny
import Derived.Lib.IndexMore
import Derived.Lib.Split
import Derived.Laws.Rows
import Derived.Laws.Tables
import Derived.Test.YtmhekhilgllciaaGreatMg7
import Derived.Test.YtmhekhilgllciaaGreatMg6
import Derived.Test.YtmhekhilgllciaaGreatMg9
import Derived.Test.YtmhekhilgllciaaGreatOwnS
import Derived.Test.YtmhekhilgllciaaGreatAppend
import Derived.Test.YtmhekhilgllciaaGreatSlcS
import Derived.Test.YtmhekhilgllciaaGreatLabB0
namespace Go.Proofs.YtmhekhilgllciaaGreat
open Go.RowKit Go.Maps

def howC (s : Bs) : Int := if s = [61] then 1 else if s = [33, 61] then 2 else if s = [61, 126] then 3 else if s = [33, 126] then 4 else 0
theorem howC_sign (n : Int) (h1 : 1 ≤ n) (h4 : n ≤ 4) : howC (signT n) = n := by
  rcases (by omega : n = 1 ∨ n = 2 ∨ n = 3 ∨ n = 4) with rfl | rfl | rfl | rfl <;> rfl
theorem howC_none (s : Bs) (h : ∀ n : Int, 1 ≤ n → n ≤ 4 → signT n ≠ s) : howC s = 0 := by
  have h1 := h 1 (by omega) (by omega)
  have h2 := h 2 (by omega) (by omega)
  have h3 := h 3 (by omega) (by omega)
  have h4 := h 4 (by omega) (by omega)
  unfold howC
  rw [if_neg (fun e => h1 e.symm), if_neg (fun e => h2 e.symm), if_neg (fun e => h3 e.symm), if_neg (fun e => h4 e.symm)]
theorem howC_some {s : Bs} (h : howC s ≠ 0) : 1 ≤ howC s ∧ howC s ≤ 4 ∧ signT (howC s) = s := by
  unfold howC at h ⊢
  by_cases h1 : s = [61]
  · subst h1; exact ⟨by decide, by decide, rfl⟩
  by_cases h2 : s = [33, 61]
  · subst h2; exact ⟨by decide, by decide, rfl⟩
  by_cases h3 : s = [61, 126]
  · subst h3; exact ⟨by decide, by decide, rfl⟩
  by_cases h4 : s = [33, 126]
  · subst h4; exact ⟨by decide, by decide, rfl⟩
  rw [if_neg h1, if_neg h2, if_neg h3, if_neg h4] at h
  exact absurd rfl h
def splitW (T : Bs) : List ByteArray := Lib.splitB ⟨#[124]⟩ 0 (min 9 (T.length + 1) - 1) ⟨T.toArray⟩
def pHead (s : Bs) : Bs := (Lib.cut s [34]).1
def pTail (s : Bs) : Bs := (Lib.cut s [34]).2.1
def pOpen (s : Bs) : Bool := (Lib.cut s [34]).2.2
def pWords (s : Bs) : Bs := Lib.trimSuffix (pTail s) [34]
def pShut (s : Bs) : Bool := Lib.hasSuffix (pTail s) [34]
def pAt (s : Bs) : Int := Lib.indexAny (pHead s) [61, 33]
def pMat (s : Bs) : Mat := ⟨⟨((pHead s).take (pAt s).toNat).toArray⟩, howC ((pHead s).drop (pAt s).toNat), splitW (pWords s)⟩
def pOk (s : Bs) : Bool := pOpen s && (pShut s && decide (0 ≤ pAt s))
/-- what a text is read as -/
def parseM (s : Bs) : Option Mat := if pOk s = true then (if rightM (pMat s) = true then some (pMat s) else none) else none

def zeroMat : Value := .agg #[.string ⟨#[]⟩, .int .i64 0, .slice none 0 0]
def ParsePost (o : Option Mat) (w : World) (e : Ending) (w' : World) : Prop :=
  (match o with
    | some m => ∃ a c, e = .returned (.tuple #[.agg (matCells a c m), .int .i64 0]) ∧ HasStrs w' a c m.words
    | none => e = .returned (.tuple #[zeroMat, .int .i64 6])) ∧ Below w.heap.size w w'

theorem pHead_len (s : Bs) : (pHead s).length ≤ s.length := by
  unfold pHead Lib.cut
  split
  · simp; omega
  · simp
theorem pTail_len (s : Bs) : (pTail s).length ≤ s.length := by
  unfold pTail Lib.cut
  split
  · simp
  · simp
theorem pWords_len (s : Bs) : (pWords s).length ≤ s.length := by
  have := pTail_len s
  unfold pWords Lib.trimSuffix
  split
  · simp; omega
  · exact this

theorem splitB_size (sep : ByteArray) : ∀ (k : Nat) (s : ByteArray), ∀ p ∈ Lib.splitB sep 0 k s, p.size ≤ s.size
  | 0, s, p, h => by
    simp only [Lib.splitB, List.mem_singleton] at h
    subst h; exact Nat.le_refl _
  | k + 1, s, p, h => by
    unfold Lib.splitB at h
    split at h
    · simp only [List.mem_singleton] at h
      subst h; exact Nat.le_refl _
    · rcases List.mem_cons.1 h with rfl | h
      · rw [ByteArray.size_extract]; omega
      · have := splitB_size sep k _ p h
        rw [ByteArray.size_extract] at this
        omega
end Go.Proofs.YtmhekhilgllciaaGreat
/- Where a matcher's sign begins: mathematics. -/
namespace Go.Proofs.YtmhekhilgllciaaGreat
open Go.RowKit Go.Maps

theorem indexAny_spec (cs : Bs) : ∀ l : Bs, (Lib.indexAny l cs = -1 ∧ ∀ b ∈ l, cs.contains b = false) ∨ ∃ i, ∃ h : i < l.length, Lib.indexAny l cs = (i : Int) ∧ cs.contains l[i] = true ∧ ∀ b ∈ l.take i, cs.contains b = false
  | [] => .inl ⟨rfl, fun b hb => by cases hb⟩
  | b :: l => by
    by_cases h0 : cs.contains b = true
    · exact .inr ⟨0, by simp, by rw [Lib.indexAny, if_pos h0]; rfl, h0, fun b hb => by cases hb⟩
    · have h0' : cs.contains b = false := Bool.eq_false_iff.2 h0
      rcases indexAny_spec cs l with ⟨h1, h2⟩ | ⟨i, hi, h1, h2, h3⟩
      · refine .inl ⟨by rw [Lib.indexAny, h0', h1]; rfl, fun x hx => ?_⟩
        rcases List.mem_cons.1 hx with rfl | hx
        · exact h0'
        · exact h2 x hx
      · refine .inr ⟨i + 1, by simpa using hi, ?_, by simpa using h2, fun x hx => ?_⟩
        · have : ((i : Int) == -1) = false := by rw [beq_eq_false_iff_ne]; omega
          rw [Lib.indexAny, h0', h1, this]; simp
        · rw [List.take_succ_cons] at hx
          rcases List.mem_cons.1 hx with rfl | hx
          · exact h0'
          · exact h3 x hx
theorem pAt_range (s : Bs) : -1 ≤ pAt s ∧ pAt s ≤ (pHead s).length := by
  unfold pAt
  rcases indexAny_spec [61, 33] (pHead s) with ⟨h, _⟩ | ⟨i, hi, h, _⟩ <;> rw [h] <;> constructor <;> omega
end Go.Proofs.YtmhekhilgllciaaGreat
/- What matcher.Parse reads is just the texts of the matchers that may be. Mathematics alone. -/
namespace Go.Proofs.YtmhekhilgllciaaGreat

/-- the words of a text, joined -/
def joinB : List Bs → Bs
  | [] => []
  | s :: r => s ++ r.flatMap fun x => 124 :: x
theorem joinW_B (ws : List ByteArray) : joinW ws = joinB (ws.map (·.data.toList)) := by
  cases ws with
  | nil => rfl
  | cons s r => simp [joinW, joinB, List.flatMap_map]
theorem joinB_split : ∀ (k : Nat) (s : Bs), joinB (Lib.splitK [124] 0 k s) = s ∧ Lib.splitK [124] 0 k s ≠ []
  | 0, s => by simp [Lib.splitK, joinB]
  | k + 1, s => by
    unfold Lib.splitK
    split
    · simp [joinB]
    · rename_i h
      have hi : 0 ≤ Lib.index s [124] := by
        have := Lib.index_ge s [124]
        have hne : Lib.index s [124] ≠ -1 := fun e => h (by rw [e]; rfl)
        omega
      rcases Lib.index_spec s [124] with ⟨h1, _⟩ | ⟨i, h1, h2, h3, _⟩
      · omega
      · obtain ⟨ih, ihn⟩ := joinB_split k (s.drop ((Lib.index s [124]).toNat + ([124] : Bs).length))
        rw [h1] at ih ihn ⊢
        have e : ((i : Int)).toNat = i := by omega
        rw [e] at ih ihn ⊢
        refine ⟨?_, by simp⟩
        obtain ⟨x, r, hxr⟩ : ∃ x r, Lib.splitK [124] 0 k (s.drop (i + ([124] : Bs).length)) = x :: r := by
          cases hq : Lib.splitK [124] 0 k (s.drop (i + ([124] : Bs).length)) with
          | nil => exact absurd hq ihn
          | cons x r => exact ⟨x, r, rfl⟩
        rw [hxr] at ih ⊢
        have hat : s.drop i = 124 :: s.drop (i + 1) := by
          have ho : ([124] : Bs).isPrefixOf (s.drop i) = true := h3
          cases hd : s.drop i with
          | nil => rw [hd] at ho; cases ho
          | cons y t =>
            rw [hd] at ho
            simp only [List.isPrefixOf, Bool.and_true, beq_iff_eq] at ho
            have : s.drop (i + 1) = t := by rw [← List.drop_drop, hd]; rfl
            rw [this, ← ho]
        conv => rhs; rw [← List.take_append_drop i s, hat]
        have ih' : x ++ r.flatMap (fun y => 124 :: y) = s.drop (i + 1) := ih
        simp only [joinB, List.flatMap_cons, Nat.add_zero]
        rw [← ih']
        simp
/-- a text that no cut of it has a bar in, split -/
theorem split_join : ∀ (ws : List Bs) (k : Nat), ws ≠ [] → (∀ x ∈ ws, (124 : UInt8) ∉ x) → ws.length ≤ k + 1 → Lib.splitK [124] 0 k (joinB ws) = ws
  | [], _, h, _, _ => absurd rfl h
  | [x], k, _, hx, _ => by
    have h0 : Lib.index x [124] = -1 := by
      rcases Lib.index_spec x [124] with ⟨h1, _⟩ | ⟨i, h1, h2, h3, _⟩
      · exact h1
      · exfalso
        have ho : ([124] : Bs).isPrefixOf (x.drop i) = true := h3
        cases hd : x.drop i with
        | nil => rw [hd] at ho; cases ho
        | cons y t =>
          rw [hd] at ho
          simp only [List.isPrefixOf, Bool.and_true, beq_iff_eq] at ho
          refine hx x (by simp) ?_
          rw [ho]
          exact List.mem_of_mem_drop (by rw [hd]; simp)
    cases k with
    | zero => simp [Lib.splitK, joinB]
    | succ k => simp [Lib.splitK, joinB, h0]
  | x :: y :: r, 0, _, _, h => by simp at h
  | x :: y :: r, k + 1, _, hx, h => by
    have hj : joinB (x :: y :: r) = x ++ 124 :: joinB (y :: r) := by simp [joinB]
    have at124 : ∀ (t : Bs) (j : Nat), Lib.occAt t [124] j = true → ∃ u, t.drop j = 124 :: u := by
      intro t j ho
      have ho : ([124] : Bs).isPrefixOf (t.drop j) = true := ho
      cases hd : t.drop j with
      | nil => rw [hd] at ho; cases ho
      | cons z u =>
        rw [hd] at ho
        simp only [List.isPrefixOf, Bool.and_true, beq_iff_eq] at ho
        exact ⟨u, by rw [← ho]⟩
    have hx0 : ∀ j, j < x.length → Lib.occAt (joinB (x :: y :: r)) [124] j ≠ true := by
      intro j hlt ho
      obtain ⟨u, hu⟩ := at124 _ _ ho
      rw [hj, List.drop_append_of_le_length (by omega)] at hu
      have hn : x.drop j ≠ [] := by simp; omega
      cases hd : x.drop j with
      | nil => exact hn hd
      | cons z v =>
        rw [hd] at hu
        simp only [List.cons_append, List.cons.injEq] at hu
        exact hx x (by simp) (List.mem_of_mem_drop (i := j) (by rw [hd, hu.1]; simp))
    have hxl : Lib.occAt (joinB (x :: y :: r)) [124] x.length = true := by
      show ([124] : Bs).isPrefixOf ((joinB (x :: y :: r)).drop x.length) = true
      rw [hj, List.drop_left]
      simp [List.isPrefixOf]
    have hi : Lib.index (joinB (x :: y :: r)) [124] = (x.length : Int) := by
      rcases Lib.index_spec (joinB (x :: y :: r)) [124] with ⟨_, h2⟩ | ⟨i, h1, _, h3, h4⟩
      · have := h2 x.length (by rw [hj]; simp)
        rw [hxl] at this; cases this
      · have hle : ¬ x.length < i := fun hlt => by
          have := h4 x.length hlt
          rw [hxl] at this; cases this
        have hge : ¬ i < x.length := fun hlt => hx0 i hlt h3
        rw [h1]; congr 1; omega
    have ih := split_join (y :: r) k (by simp) (fun z hz => hx z (by simp [hz])) (by simp at h ⊢; omega)
    unfold Lib.splitK
    rw [hi, if_neg (by rw [beq_iff_eq]; omega)]
    have e : ((x.length : Int)).toNat = x.length := by omega
    rw [e]
    have ed : (joinB (x :: y :: r)).drop (x.length + ([124] : Bs).length) = joinB (y :: r) := by
      rw [hj, ← List.drop_drop, List.drop_left]; rfl
    have et : (joinB (x :: y :: r)).take (x.length + 0) = x := by rw [hj, Nat.add_zero, List.take_left]
    rw [ed, et, ih]
end Go.Proofs.YtmhekhilgllciaaGreat
/- What matcher.Parse reads is just the texts of the matchers that may be. Mathematics alone. -/
namespace Go.Proofs.YtmhekhilgllciaaGreat

theorem index_at (c : UInt8) (x y : Bs) (h : c ∉ x) : Lib.index (x ++ c :: y) [c] = (x.length : Int) := by
  have hat : ∀ (t : Bs) (j : Nat), Lib.occAt t [c] j = true → ∃ u, t.drop j = c :: u := by
    intro t j ho
    have ho : ([c] : Bs).isPrefixOf (t.drop j) = true := ho
    cases hd : t.drop j with
    | nil => rw [hd] at ho; cases ho
    | cons z u =>
      rw [hd] at ho
      simp only [List.isPrefixOf, Bool.and_true, beq_iff_eq] at ho
      exact ⟨u, by rw [← ho]⟩
  have hx0 : ∀ j, j < x.length → Lib.occAt (x ++ c :: y) [c] j ≠ true := by
    intro j hlt ho
    obtain ⟨u, hu⟩ := hat _ _ ho
    rw [List.drop_append_of_le_length (by omega)] at hu
    have hn : x.drop j ≠ [] := by simp; omega
    cases hd : x.drop j with
    | nil => exact hn hd
    | cons z v =>
      rw [hd] at hu
      simp only [List.cons_append, List.cons.injEq] at hu
      exact h (List.mem_of_mem_drop (i := j) (by rw [hd, hu.1]; simp))
  have hxl : Lib.occAt (x ++ c :: y) [c] x.length = true := by
    show ([c] : Bs).isPrefixOf ((x ++ c :: y).drop x.length) = true
    rw [List.drop_left]
    simp [List.isPrefixOf]
  rcases Lib.index_spec (x ++ c :: y) [c] with ⟨_, h2⟩ | ⟨i, h1, _, h3, h4⟩
  · have := h2 x.length (by simp)
    rw [hxl] at this; cases this
  · have hle : ¬ x.length < i := fun hlt => by
      have := h4 x.length hlt
      rw [hxl] at this; cases this
    have hge : ¬ i < x.length := fun hlt => hx0 i hlt h3
    rw [h1]; congr 1; omega
theorem index_found {c : UInt8} {s : Bs} (h : 0 ≤ Lib.index s [c]) : s = s.take (Lib.index s [c]).toNat ++ c :: s.drop ((Lib.index s [c]).toNat + 1) := by
  rcases Lib.index_spec s [c] with ⟨h1, _⟩ | ⟨i, h1, _, h3, _⟩
  · omega
  · have e : ((i : Int)).toNat = i := by omega
    rw [h1, e]
    have hat : s.drop i = c :: s.drop (i + 1) := by
      have ho : ([c] : Bs).isPrefixOf (s.drop i) = true := h3
      cases hd : s.drop i with
      | nil => rw [hd] at ho; cases ho
      | cons y t =>
        rw [hd] at ho
        simp only [List.isPrefixOf, Bool.and_true, beq_iff_eq] at ho
        have : s.drop (i + 1) = t := by rw [← List.drop_drop, hd]; rfl
        rw [this, ← ho]
    rw [← hat, List.take_append_drop]
theorem cutM_at (c : UInt8) (x y : Bs) (h : c ∉ x) : Lib.cut (x ++ c :: y) [c] = (x, y, true) := by
  unfold Lib.cut
  rw [index_at c x y h, if_pos (by omega)]
  have e : ((x.length : Int)).toNat = x.length := by omega
  rw [e, List.take_left, ← List.drop_drop, List.drop_left]
  rfl
theorem cutM_found {s : Bs} (h : pOpen s = true) : s = pHead s ++ 34 :: pTail s := by
  unfold pOpen Lib.cut at h
  unfold pHead pTail Lib.cut
  by_cases h0 : 0 ≤ Lib.index s [34]
  · simp only [if_pos h0]
    exact index_found h0
  · rw [if_neg h0] at h; cases h
theorem shut_found {s : Bs} (h : pShut s = true) : pTail s = pWords s ++ [34] := by
  unfold pShut at h
  unfold pWords Lib.trimSuffix
  rw [if_pos h]
  obtain ⟨t, ht⟩ := List.isSuffixOf_iff_suffix.1 (show ([34] : Bs).isSuffixOf (pTail s) = true from h)
  rw [← ht]
  simp
theorem splitW_data (T : Bs) : (splitW T).map (·.data.toList) = Lib.splitK [124] 0 (min 9 (T.length + 1) - 1) T := by
  unfold splitW
  rw [Lib.splitB_data]
theorem joinW_splitW (T : Bs) : joinW (splitW T) = T := by
  rw [joinW_B, splitW_data]
  exact (joinB_split _ T).1
theorem data_inj : ∀ (a b : List ByteArray), a.map (·.data.toList) = b.map (·.data.toList) → a = b
  | [], [], _ => rfl
  | [], _ :: _, h => by simp at h
  | _ :: _, [], h => by simp at h
  | x :: a, y :: b, h => by
    simp only [List.map_cons, List.cons.injEq] at h
    have e : x = y := by
      cases x; cases y
      simp only [Array.toList_inj] at h
      rw [h.1]
    rw [e, data_inj a b h.2]
theorem joinB_len : ∀ (ws : List Bs), ws.length ≤ (joinB ws).length + 1
  | [] => by simp
  | [x] => by simp
  | x :: y :: r => by
    have ih := joinB_len (y :: r)
    have hj : joinB (x :: y :: r) = x ++ 124 :: joinB (y :: r) := by simp [joinB]
    rw [hj]
    simp at ih ⊢
    omega
theorem splitW_joinW (ws : List ByteArray) (hr : wordsC ws = true) (h1 : 1 ≤ ws.length) (h8 : ws.length ≤ 8) : splitW (joinW ws) = ws := by
  apply data_inj
  rw [splitW_data, joinW_B]
  have hl := joinB_len (ws.map (·.data.toList))
  rw [List.length_map] at hl
  refine split_join _ _ ?_ ?_ ?_
  · intro e
    have := congrArg List.length e
    simp at this
    subst this; simp at h1
  · intro x hx
    obtain ⟨y, hy, rfl⟩ := List.mem_map.1 hx
    have hw := wordsC_all hr y hy
    unfold wordC at hw
    simp only [Bool.and_eq_true, List.all_eq_true] at hw
    intro hc
    have := hw.2 _ hc
    revert this; decide
  · rw [List.length_map]; omega

theorem parseM_text (m : Mat) (hr : rightM m = true) : parseM (textM m) = some m := by
  obtain ⟨hn, h1, h4, hw, hl1, hl8, _⟩ := (rightM_iff m).1 hr
  have hnm : ∀ b ∈ m.name.data.toList, wrdC b = true := by
    unfold nameC at hn
    simp only [Bool.and_eq_true, List.all_eq_true] at hn
    exact hn.2
  have hs : ∃ a t, signT m.how = a :: t ∧ ([61, 33] : Bs).contains a = true ∧ (34 : UInt8) ∉ a :: t := by
    rcases (by omega : m.how = 1 ∨ m.how = 2 ∨ m.how = 3 ∨ m.how = 4) with e | e | e | e <;> rw [e]
    · exact ⟨61, [], rfl, by decide, by decide⟩
    · exact ⟨33, [61], rfl, by decide, by decide⟩
    · exact ⟨61, [126], rfl, by decide, by decide⟩
    · exact ⟨33, [126], rfl, by decide, by decide⟩
  obtain ⟨a, t, hst, ha, h34⟩ := hs
  have hno : (34 : UInt8) ∉ m.name.data.toList ++ signT m.how := by
    rw [List.mem_append, hst]
    rintro (h | h)
    · have := hnm _ h; revert this; decide
    · exact h34 h
  have hcut : Lib.cut (textM m) [34] = (m.name.data.toList ++ signT m.how, joinW m.words ++ [34], true) := by
    unfold textM
    exact cutM_at 34 _ _ hno
  have eH : pHead (textM m) = m.name.data.toList ++ signT m.how := by unfold pHead; rw [hcut]
  have eT : pTail (textM m) = joinW m.words ++ [34] := by unfold pTail; rw [hcut]
  have eO : pOpen (textM m) = true := by unfold pOpen; rw [hcut]
  have eS : pShut (textM m) = true := by
    unfold pShut; rw [eT]
    exact List.isSuffixOf_iff_suffix.2 ⟨_, rfl⟩
  have eW : pWords (textM m) = joinW m.words := by
    have := shut_found eS
    rw [eT] at this
    exact (List.append_cancel_right this).symm
  have eA : pAt (textM m) = (m.name.data.toList.length : Int) := by
    unfold pAt
    rw [eH]
    rcases indexAny_spec [61, 33] (m.name.data.toList ++ signT m.how) with ⟨_, h2⟩ | ⟨i, hi, e, h2, h3⟩
    · have := h2 a (by rw [hst]; simp)
      rw [ha] at this; cases this
    · rw [e]
      have hge : ¬ i < m.name.data.toList.length := fun hlt => by
        rw [List.getElem_append_left hlt] at h2
        have := hnm _ (List.getElem_mem hlt)
        generalize m.name.data.toList[i] = b at h2 this
        simp only [List.contains_cons, List.contains_nil, Bool.or_false, Bool.or_eq_true, beq_iff_eq] at h2
        rcases h2 with rfl | rfl <;> revert this <;> decide
      have hle : ¬ m.name.data.toList.length < i := fun hlt => by
        have hm : a ∈ (m.name.data.toList ++ signT m.how).take i := by
          rw [hst, List.take_append, List.mem_append]
          right
          obtain ⟨k, hk⟩ : ∃ k, i - m.name.data.toList.length = k + 1 := ⟨i - m.name.data.toList.length - 1, by omega⟩
          rw [hk, List.take_succ_cons]; simp
        have := h3 a hm
        rw [ha] at this; cases this
      congr 1; omega
  have eM : pMat (textM m) = m := by
    unfold pMat
    rw [eH, eA, eW, splitW_joinW m.words hw hl1 hl8]
    have e : ((m.name.data.toList.length : Int)).toNat = m.name.data.toList.length := by omega
    rw [e, List.take_left, List.drop_left, howC_sign m.how h1 h4]
  unfold parseM
  have hok : pOk (textM m) = true := by
    unfold pOk
    rw [eO, eS, eA]
    simp
  rw [if_pos hok, eM, if_pos hr]
theorem parseM_iff (s : Bs) (m : Mat) : parseM s = some m ↔ rightM m = true ∧ textM m = s := by
  constructor
  · intro h
    unfold parseM at h
    by_cases hok : pOk s = true
    · rw [if_pos hok] at h
      by_cases hr : rightM (pMat s) = true
      · rw [if_pos hr] at h
        cases h
        refine ⟨hr, ?_⟩
        unfold pOk at hok
        simp only [Bool.and_eq_true] at hok
        obtain ⟨ho, hsh, _⟩ := hok
        obtain ⟨_, h1, h4, _⟩ := (rightM_iff _).1 hr
        have hw : howC ((pHead s).drop (pAt s).toNat) ≠ 0 := by
          have : (pMat s).how = howC ((pHead s).drop (pAt s).toNat) := rfl
          omega
        have hsg := (howC_some hw).2.2
        show ((pHead s).take (pAt s).toNat) ++ signT (howC ((pHead s).drop (pAt s).toNat)) ++ 34 :: (joinW (splitW (pWords s)) ++ [34]) = s
        rw [hsg, List.take_append_drop, joinW_splitW, ← shut_found hsh]
        exact (cutM_found ho).symm
      · rw [if_neg hr] at h; cases h
    · rw [if_neg hok] at h; cases h
  · rintro ⟨hr, rfl⟩
    exact parseM_text m hr
end Go.Proofs.YtmhekhilgllciaaGreat
/- Texts that are bound, and the texts of matchers, tell what they were: mathematics. -/
namespace Go.Proofs.YtmhekhilgllciaaGreat

theorem numR_head (f : Nat) : ∀ (n m : Nat) (X Y : List UInt8), (numB n).length ≤ f → numB n ++ X = numB m ++ Y → n = m ∧ X = Y := by
  induction f with
  | zero => intro n m X Y h; have := numB_pos n; omega
  | succ f ih =>
    intro n m X Y h e
    by_cases h1 : n < 128 <;> by_cases h2 : m < 128
    · rw [numB_lt h1, numB_lt h2, List.singleton_append, List.singleton_append] at e
      obtain ⟨e1, e2⟩ := List.cons.inj e
      have a : (UInt8.ofNat n).toNat = n := by simp; omega
      have b : (UInt8.ofNat m).toNat = m := by simp; omega
      exact ⟨by rw [← a, ← b, e1], e2⟩
    · rw [numB_lt h1, numB_ge (n := m) (by omega), List.singleton_append, List.cons_append] at e
      obtain ⟨e1, e2⟩ := List.cons.inj e
      have a : (UInt8.ofNat n).toNat = n := by simp; omega
      have b : (UInt8.ofNat (m % 128 + 128)).toNat = m % 128 + 128 := by simp; omega
      rw [e1, b] at a
      omega
    · rw [numB_ge (n := n) (by omega), numB_lt h2, List.singleton_append, List.cons_append] at e
      obtain ⟨e1, e2⟩ := List.cons.inj e
      have a : (UInt8.ofNat (n % 128 + 128)).toNat = n % 128 + 128 := by simp; omega
      have b : (UInt8.ofNat m).toNat = m := by simp; omega
      rw [e1, b] at a
      omega
    · rw [numB_ge (n := n) (by omega), numB_ge (n := m) (by omega), List.cons_append, List.cons_append] at e
      obtain ⟨e1, e2⟩ := List.cons.inj e
      have a : (UInt8.ofNat (n % 128 + 128)).toNat = n % 128 + 128 := by simp; omega
      have b : (UInt8.ofNat (m % 128 + 128)).toNat = m % 128 + 128 := by simp; omega
      rw [e1, b] at a
      rw [numB_ge (n := n) (by omega)] at h
      obtain ⟨e3, e4⟩ := ih _ _ _ _ (by simpa using h) e2
      exact ⟨by omega, e4⟩
theorem bindM_inj : ∀ (L M : List ByteArray), bindL L = bindL M → L = M
  | [], [], _ => rfl
  | [], y :: M, h => by
    have := numB_pos y.size
    have h := congrArg List.length h
    simp only [bindL, List.flatMap_nil, List.flatMap_cons, List.length_append, List.length_nil] at h
    omega
  | x :: L, [], h => by
    have := numB_pos x.size
    have h := congrArg List.length h
    simp only [bindL, List.flatMap_nil, List.flatMap_cons, List.length_append, List.length_nil] at h
    omega
  | x :: L, y :: M, h => by
    have hb : ∀ (z : ByteArray) (K : List ByteArray), bindL (z :: K) = numB z.size ++ (z.data.toList ++ bindL K) := fun z K => by simp [bindL]
    rw [hb, hb] at h
    obtain ⟨e1, e2⟩ := numR_head _ _ _ _ _ (Nat.le_refl _) h
    obtain ⟨e3, e4⟩ := List.append_inj e2 (by simpa using e1)
    have e5 : x = y := by
      apply ByteArray.ext
      exact Array.ext' e3
    rw [e5, bindM_inj L M e4]
theorem bindS_inj {L M : List ByteArray} (hL : mayB L = true) (hM : mayB M = true) (h : bindS L = bindS M) : L = M := by
  unfold bindS at h
  rw [if_pos hL, if_pos hM] at h
  exact bindM_inj L M (by have := congrArg (fun b : ByteArray => b.data.toList) h; simpa using this)
theorem textV_inj {m m' : Mat} (h : rightM m = true) (h' : rightM m' = true) (e : textV m = textV m') : m = m' := by
  unfold textV at e
  rw [if_pos h, if_pos h'] at e
  have e : textM m = textM m' := by have := congrArg (fun b : ByteArray => b.data.toList) e; simpa using this
  have a := parseM_text m h
  rw [e, parseM_text m' h'] at a
  exact (Option.some.inj a).symm
theorem textVs_inj : ∀ {ms ms' : List Mat}, ms.all rightM = true → ms'.all rightM = true → ms.map textV = ms'.map textV → ms = ms'
  | [], [], _, _, _ => rfl
  | [], _ :: _, _, _, h => by cases h
  | _ :: _, [], _, _, h => by cases h
  | m :: ms, m' :: ms', h, h', e => by
    rw [List.all_cons, Bool.and_eq_true] at h h'
    simp only [List.map_cons, List.cons.injEq] at e
    rw [textV_inj h.1 h'.1 e.1, textVs_inj h.2 h'.2 e.2]
end Go.Proofs.YtmhekhilgllciaaGreat
/- Inhibits of one text, and things sorted by their names: mathematics. -/
namespace Go.Proofs.YtmhekhilgllciaaGreat
open Go.RowKit Go.Lib Go.Sort

theorem leB_antisym (a b : ByteArray) (h : leB a.data.toList b.data.toList = true) (h' : leB b.data.toList a.data.toList = true) : a = b := by
  simp only [leB, Bool.not_eq_true'] at h h'
  have := lessB_tri _ _ h' h
  apply ByteArray.ext
  exact Array.ext' this
theorem pair_ne {A : Type} {nm : A → ByteArray} : ∀ {k : List A}, k.Pairwise (fun a b => nm a ≠ nm b) → ∀ {a b : A}, a ∈ k → b ∈ k → a ≠ b → nm a ≠ nm b
  | [], _, _, _, ha, _, _ => by cases ha
  | x :: k, h, a, b, ha, hb, hne => by
    rw [List.pairwise_cons] at h
    rcases List.mem_cons.1 ha with ea | ha
    · rcases List.mem_cons.1 hb with eb | hb
      · exact absurd (ea.trans eb.symm) hne
      · rw [ea]; exact h.1 b hb
    · rcases List.mem_cons.1 hb with eb | hb
      · rw [eb]; exact (h.1 a ha).symm
      · exact pair_ne h.2 ha hb hne
/-- things of unlike names have one order by their names -/
theorem sortedN_uniq {A : Type} {nm : A → ByteArray} {k x y : List A} (hx : SortedN nm k x) (hy : SortedN nm k y) (hn : (k.map nm).Nodup) : x = y := by
  refine List.Perm.eq_of_pairwise (le := fun a b => leB (nm a).data.toList (nm b).data.toList = true) (fun a b ha hb h h' => ?_) hx.2 hy.2 (hx.1.trans hy.1.symm)
  have e := leB_antisym _ _ h h'
  have ha := hx.1.mem_iff.1 ha
  have hb := hy.1.mem_iff.1 hb
  unfold List.Nodup at hn
  rw [List.pairwise_map] at hn
  exact Classical.byContradiction fun hne => pair_ne hn ha hb hne e
theorem sortedN_names {A : Type} {nm : A → ByteArray} {k x y : List A} (hx : SortedN nm k x) (hy : SortedN nm k y) : x.map nm = y.map nm := by
  refine List.Perm.eq_of_pairwise (le := fun a b => leB a.data.toList b.data.toList = true) (fun a b _ _ h h' => leB_antisym a b h h') ?_ ?_ ((hx.1.trans hy.1.symm).map nm)
  · rw [List.pairwise_map]; exact hx.2
  · rw [List.pairwise_map]; exact hy.2
theorem numB_len2T {n : Nat} (h : n < 16384) : (numB n).length ≤ 2 := numB_len 1 n (by omega)
theorem bindL_small (ss : List ByteArray) (K : Nat) (hK : K < 16384) (hs : ∀ s ∈ ss, s.size ≤ K) : (bindL ss).length ≤ ss.length * (K + 2) := by
  induction ss with
  | nil => simp [bindL]
  | cons x ss ih =>
    have h1 := hs x (by simp)
    have h2 := numB_len2T (n := x.size) (by omega)
    have h3 := ih (fun s hs' => hs s (by simp [hs']))
    simp only [bindL, List.flatMap_cons, List.length_append, List.length_cons, Nat.succ_mul] at *
    have : x.data.toList.length = x.size := by simp
    omega
theorem bindS_small (ss : List ByteArray) (K n : Nat) (hK : K < 16384) (hs : ∀ s ∈ ss, s.size ≤ K) (hn : ss.length ≤ n) : (bindS ss).size ≤ n * (K + 2) := by
  unfold bindS
  split
  · have h := bindL_small ss K hK hs
    show (bindL ss).toArray.size ≤ _
    rw [List.size_toArray]
    exact Nat.le_trans h (Nat.mul_le_mul_right _ hn)
  · exact Nat.zero_le _
theorem mayB_of (ss : List ByteArray) (h1 : ss.length ≤ 512) (h2 : ∀ s ∈ ss, s.size ≤ 8192) : mayB ss = true := by
  unfold mayB
  rw [Bool.and_eq_true, decide_eq_true_eq, List.all_eq_true]
  exact ⟨h1, fun s hs => decide_eq_true (h2 s hs)⟩
theorem textV_small (m : Mat) : (textV m).size ≤ 700 := by
  unfold textV
  split
  · rename_i h
    obtain ⟨h1, h2, h3, h4⟩ := right_words h
    have := joinW_len m.words h1 h3
    show (textM m).toArray.size ≤ 700
    rw [List.size_toArray]
    have hn : m.name.data.toList.length = m.name.size := by simp
    have hs : (signT m.how).length ≤ 2 := by
      obtain ⟨_, k1, k4, _⟩ := (rightM_iff m).1 h
      rcases (by omega : m.how = 1 ∨ m.how = 2 ∨ m.how = 3 ∨ m.how = 4) with e | e | e | e <;> rw [e] <;> decide
    simp only [textM, List.length_append, List.length_cons, List.length_nil]
    omega
  · exact Nat.zero_le _
theorem good_names {x : InA} (h : InA.good x = true) : x.e.length ≤ 8 ∧ ∀ s ∈ x.e, s.size ≤ 64 := by
  simp only [InA.good, Bool.and_eq_true] at h
  obtain ⟨g1, g2, _⟩ := (rightC_iff _).1 h.2.2
  refine ⟨by simpa [byLabs] using g1, fun s hs => ?_⟩
  have := g2 (s, ⟨#[118]⟩) (by simp only [byLabs]; exact List.mem_map.2 ⟨s, hs, rfl⟩)
  simp only [labC, nameC, Bool.and_eq_true, decide_eq_true_eq] at this
  have h2 := this.1.1.1.2
  simpa using h2
theorem good_sides {x : InA} (h : InA.good x = true) : (x.s.length ≤ 8 ∧ x.s.all rightM = true) ∧ (x.t.length ≤ 8 ∧ x.t.all rightM = true) := by
  simp only [InA.good, sideC, matchC, Bool.and_eq_true, decide_eq_true_eq] at h
  exact ⟨h.1.2, h.2.1.2⟩
theorem side_may (ms : List Mat) (h : ms.length ≤ 8) : mayB (ms.map textV) = true ∧ (bindS (ms.map textV)).size ≤ 8192 := by
  have hs : ∀ s ∈ ms.map textV, s.size ≤ 700 := fun s hs => by obtain ⟨m, _, rfl⟩ := List.mem_map.1 hs; exact textV_small m
  refine ⟨mayB_of _ (by simp; omega) (fun s h => Nat.le_trans (hs s h) (by omega)), ?_⟩
  exact Nat.le_trans (bindS_small _ 700 8 (by omega) hs (by simpa using h)) (by omega)
theorem names_may {x : InA} (h : InA.good x = true) : mayB x.e = true ∧ (bindS x.e).size ≤ 8192 := by
  obtain ⟨h1, h2⟩ := good_names h
  exact ⟨mayB_of _ (by omega) (fun s hs => Nat.le_trans (h2 s hs) (by omega)), Nat.le_trans (bindS_small _ 64 8 (by omega) h2 h1) (by omega)⟩
theorem inhT_inj {x y : InA} (hx : InA.good x = true) (hy : InA.good y = true) (e : inhT x = inhT y) : likeI x y := by
  obtain ⟨⟨a1, a2⟩, a3, a4⟩ := good_sides hx
  obtain ⟨⟨b1, b2⟩, b3, b4⟩ := good_sides hy
  have p : ∀ {z : InA}, InA.good z = true → mayB [bindS (z.s.map textV), bindS (z.t.map textV), bindS z.e] = true := fun {z} hz => by
    obtain ⟨⟨c1, _⟩, c3, _⟩ := good_sides hz
    refine mayB_of _ (by simp) (fun s hs => ?_)
    simp only [List.mem_cons, List.not_mem_nil, or_false] at hs
    rcases hs with rfl | rfl | rfl
    · exact (side_may _ c1).2
    · exact (side_may _ c3).2
    · exact (names_may hz).2
  have h := bindS_inj (p hx) (p hy) e
  simp only [List.cons.injEq, and_true] at h
  obtain ⟨h1, h2, h3⟩ := h
  exact ⟨textVs_inj a2 b2 (bindS_inj (side_may _ a1).1 (side_may _ b1).1 h1), textVs_inj a4 b4 (bindS_inj (side_may _ a3).1 (side_may _ b3).1 h2), bindS_inj (names_may hx).1 (names_may hy).1 h3⟩
theorem inhT_like {x y : InA} (h : likeI x y) : inhT x = inhT y := by
  obtain ⟨h1, h2, h3⟩ := h
  unfold inhT
  rw [h1, h2, h3]
theorem like_text {x y : InA} (hx : InA.good x = true) (hy : InA.good y = true) : eqB (likeI x y) = decide (inhT x = inhT y) := by
  rw [Bool.eq_iff_iff, eqB_iff, decide_eq_true_eq]
  exact ⟨inhT_like, inhT_inj hx hy⟩
theorem compG_texts : ∀ (l l' : List InA) (p p' : InA), (∀ z ∈ l, InA.good z = true) → (∀ z ∈ l', InA.good z = true) → InA.good p = true → InA.good p' = true → inhT p = inhT p' → l.map inhT = l'.map inhT → (compG p l).map inhT = (compG p' l').map inhT
  | [], [], _, _, _, _, _, _, _, _ => rfl
  | [], _ :: _, _, _, _, _, _, _, _, e => by cases e
  | _ :: _, [], _, _, _, _, _, _, _, e => by cases e
  | y :: l, y' :: l', p, p', hl, hl', hp, hp', ep, e => by
    simp only [List.map_cons, List.cons.injEq] at e
    have g := hl y (by simp)
    have g' := hl' y' (by simp)
    have ih := compG_texts l l' y y' (fun z hz => hl z (by simp [hz])) (fun z hz => hl' z (by simp [hz])) g g' e.1 e.2
    unfold compG
    rw [like_text g hp, like_text g' hp', e.1, ep]
    split
    · exact ih
    · simp only [List.map_cons, e.1, ih]
theorem compI_texts {l l' : List InA} (hl : ∀ z ∈ l, InA.good z = true) (hl' : ∀ z ∈ l', InA.good z = true) (e : l.map inhT = l'.map inhT) : (compI l).map inhT = (compI l').map inhT := by
  match l, l', e with
  | [], [], _ => rfl
  | [], _ :: _, e => cases e
  | _ :: _, [], e => cases e
  | y :: l, y' :: l', e =>
    simp only [List.map_cons, List.cons.injEq] at e
    simp only [compI, List.map_cons, e.1]
    rw [compG_texts l l' y y' (fun z hz => hl z (by simp [hz])) (fun z hz => hl' z (by simp [hz])) (hl y (by simp)) (hl' y' (by simp)) e.1 e.2]
theorem bsOf_nodupT (ss : List ByteArray) : (bsOf ss).Nodup ↔ ss.Nodup := by
  unfold bsOf List.Nodup
  rw [List.pairwise_map]
  constructor
  · exact fun h => h.imp fun hab e => hab (by rw [e])
  · exact fun h => h.imp fun {a b} hab e => hab (by rw [← strB_of a, ← strB_of b]; exact congrArg strB e)
theorem onceT_iff (ss : List ByteArray) : onceS ss = true ↔ ss.Nodup := (onceB_iff (bsOf ss)).trans (bsOf_nodupT ss)
end Go.Proofs.YtmhekhilgllciaaGreat
/- In a region that draws its order: an append of a row of texts to a slice of texts of the call's own. It speaks of no one program. -/
namespace Go.Proofs.YtmhekhilgllciaaGreat
open Go.RowKit

/-- a row of texts, as what an append is handed -/
theorem src_texts {P : Program} {t e : Nat} {w : World} {a : Option Addr} {c : Nat} {ss : List ByteArray} (hk : P.underlying t = some (.slice e)) (h : HasStrs w a c ss) : Src P 1 t (.slice a ss.length c) ss.length (strsV ss) w := by
  obtain ⟨h1, h2, h3, h4⟩ := h
  rcases h4 with rfl | ⟨b, off, rfl, hb, hc⟩
  · cases a with
    | none => exact Src.ofNil w hk c
    | some a => exact Src.ofSlice w hk a 0 c [] (by simp) (fun j u hu => by simp at hu) (fun u hu => by cases hu)
  · refine Src.ofSlice w hk ⟨b, off, none⟩ ss.length c (strsV ss) (by simp [strsV]) (fun j u hu => ?_) (fun u hu => ?_)
    · have hj : j < ss.length := by
        have := (List.getElem?_eq_some_iff.1 hu).1
        simpa [strsV] using this
      have e0 : (⟨b, off, none⟩ : Addr).add j = ⟨b, off + j, none⟩ := by unfold Addr.add; split <;> simp_all
      rw [e0, hc j hj]
      simpa [strsV, hj] using hu
    · obtain ⟨_, _, rfl⟩ := List.mem_map.1 hu
      rfl
theorem strsV_app (a b : List ByteArray) : strsV (a ++ b) = strsV a ++ strsV b := by simp [strsV]
theorem step_appS {P : Program} (W : World) {ops : Array Oper} {o : Oper} {a : Act} {K : Act → World → Prop} {Q : Exit → Act → World → Prop} {E : Prop} (hgd : o.guard = none) (s x : Operand) (t : TypeId)
    (ho : o.op = .call { callee := .builtin .append, args := #[s, x], argTypes := #[t, t] })
    (base : Nat) (e : TypeId) (i : TypeInfo) (z : Value) (ht : P.underlying t = some (.slice e)) (hi : P.info? e = some i) (hz : i.zero = some z) (hsize : i.size = 1) (hby : i.bytes = 16) (hzs : z.cells.size = 1)
    (v : Value) (ss : List ByteArray) (hs : a.eval s = v) (hown : OwnS e W base v ss) (xa : Option Addr) (xn xc : Nat) (us : List ByteArray)
    (hx : a.eval x = .slice xa xn xc) (hxn : xn = us.length) (hsrc : HasStrs W xa xc us) (h63 : ss.length + us.length ≤ 1000000) (hbase : base ≤ W.heap.size)
    (h : ∀ (v' : Value) (w' : World), OwnS e w' base v' (ss ++ us) → W.grownBy w' v.ownBlock → K (a.put o.dst v') w') :
    if Region.wanted o (yielded ops a.tmps) = true then Oper.wp P o a W K Q else E := by
  have hw : Region.wanted o (yielded ops a.tmps) = true := by simp [Region.wanted, hgd]
  rw [if_pos hw]
  subst hxn
  have hsr := src_texts (P := P) ht hsrc
  unfold OwnS at hown
  rw [← hsize] at hown hsr
  obtain ⟨v', w', hr, h2, h3⟩ := run_append_src (P := P) W base t t o.type e i z 16 ht hi hz hby (by rw [hsize]; exact hzs) v ss.length (strsV ss) hown _ us.length (strsV us) hsr (by unfold maxLen; omega) (by omega) hbase
  rw [hsize] at h2
  unfold Oper.wp execOp
  simp only [ho, resolve, invoke, builtin, Sem.run_bind, Sem.run_pure, Result.andThen_ok, List.map_toArray, List.map_cons, List.map_nil, hs, hx, hr]
  refine h v' w' ?_ h3
  unfold OwnS
  rw [strsV_app, List.length_append]
  exact h2
/-- the first texts of a row, and those behind -/
theorem hasStrs_take {w : World} {a : Option Addr} {c : Nat} {ss : List ByteArray} (h : HasStrs w a c ss) (k : Nat) (hk : k ≤ ss.length) : HasStrs w a c (ss.take k) := by
  obtain ⟨h1, h2, h3, h4⟩ := h
  refine ⟨by rw [List.length_take]; omega, h2, fun s hs => h3 s (List.mem_of_mem_take hs), ?_⟩
  rcases h4 with rfl | ⟨b, off, rfl, hb, hc⟩
  · exact .inl (by simp)
  · refine .inr ⟨b, off, rfl, hb, fun i hi => ?_⟩
    have hi' : i < ss.length := by rw [List.length_take] at hi; omega
    rw [hc i hi']; simp
theorem hasStrs_drop {w : World} {b off c c' : Nat} {ss : List ByteArray} (h : HasStrs w (some ⟨b, off, none⟩) c ss) (k : Nat) (hk : k ≤ ss.length) (hc : c' = c - k) : HasStrs w (some ⟨b, off + k, none⟩) c' (ss.drop k) := by
  obtain ⟨h1, h2, h3, h4⟩ := h
  refine ⟨by rw [List.length_drop]; omega, by omega, fun s hs => h3 s (List.mem_of_mem_drop hs), ?_⟩
  rcases h4 with rfl | ⟨b2, o2, e, hb, hc⟩
  · exact .inl (by simp)
  · cases e
    refine .inr ⟨b, off + k, rfl, hb, fun i hi => ?_⟩
    have hi' : k + i < ss.length := by rw [List.length_drop] at hi; omega
    rw [Nat.add_assoc, hc (k + i) hi']; simp
theorem OwnS.made (T : TypeId) (w : World) : OwnS T (w.alloc (.cells #[] T)) w.heap.size (.slice (some ⟨w.heap.size, 0, none⟩) 0 0) [] := by
  refine ⟨rfl, .inr ⟨w.heap.size, 0, #[], rfl, Nat.le_refl _, ?_, Nat.le_refl _, by unfold maxLen; omega, rfl, rfl⟩⟩
  show (w.heap.push _)[w.heap.size]? = _; simp
end Go.Proofs.YtmhekhilgllciaaGreat
/- The contracts of the document's own has and once of layer 10, and of its Bind of longer texts. -/
namespace Go.Proofs.YtmhekhilgllciaaGreat
open Go.RowKit

set_option maxHeartbeats 1600000 in
theorem rHas10_any (a : Option Addr) (c : Nat) (ss : List ByteArray) (x : ByteArray) (w : World) (h : HasStrs w a c ss) : Calls Tryz.prog 31 #[.slice a ss.length c, .string x] w (BoolS (memB x ss) w) := by
  obtain ⟨h1, h2, h3, h4⟩ := h
  unfold maxLen at h2
  rcases h4 with rfl | ⟨b, off, rfl, hb, hcell⟩
  · go_enter Tryz.func31, Tryz.ntmps31
    go_wp2
    refine wp_loop_rounds 1 ?_
    rw [rounds_succ]
    go_wp2
    go_ret
    exact ⟨rfl, rfl⟩
  obtain ⟨J, hJ, hok, hend⟩ := seek_end ss x
  have HC := Lib.hid hcell
  have HOK := Lib.hid hok
  have HE := Lib.hid hend
  clear hcell h3 hok hend
  go_enter Tryz.func31, Tryz.ntmps31
  go_wp2
  go_loop [9, 6] (fun i _ => ∃ k : Nat, k ≤ J ∧ i = .int .i64 k) (fun i _ => ss.length - (intOf i).toNat)
  case atStart => exact ⟨0, Nat.zero_le _, rfl⟩
  case round =>
    obtain ⟨k, hk, rfl⟩ := hrel
    by_cases hkl : k < ss.length
    · have hc1 := HC.out k hkl
      by_cases hkJ : k = J
      · rcases HE.out with ⟨he, _⟩ | ⟨hj, hq1, hq2, _, hq3⟩
        · omega
        · subst hkJ
          have H3 := Lib.hid hq3
          clear hq3
          go_wp2
          go_ret
          exact ⟨by rw [H3.out]; rfl, rfl⟩
      · obtain ⟨q1, q2⟩ := HOK.out k (by omega) hkl
        go_wp2
        go_round
        case rel => exact ⟨k + 1, by omega, by go_num⟩
        case measure => simp [intOf]; omega
    · rcases HE.out with ⟨_, _, hq⟩ | ⟨hj, _⟩
      · have H3 := Lib.hid hq
        clear hq
        go_wp2
        go_ret
        exact ⟨by rw [H3.out]; rfl, rfl⟩
      · omega
/-- where a walk over texts that seeks one that is there twice ends -/
theorem once_end (ss : List ByteArray) : ∃ J, J ≤ ss.length ∧ (∀ k (_h : k < J) (h2 : k < ss.length), memB ss[k] (ss.take k) = false) ∧ (J = ss.length ∧ onceS ss = true ∨ ∃ hj : J < ss.length, memB ss[J] (ss.take J) = true ∧ onceS ss = false) := by
  have hmem : ∀ k (h : k < ss.length), memB ss[k] (ss.take k) = true ↔ ∃ i, ∃ h2 : i < k, ss[i]'(by omega) = ss[k] := fun k h => by
    rw [memB_iff]
    constructor
    · intro hm
      obtain ⟨i, hi, e⟩ := List.getElem_of_mem hm
      have hi' : i < k := by rw [List.length_take] at hi; omega
      exact ⟨i, hi', by rw [← e]; simp⟩
    · rintro ⟨i, hi, e⟩
      rw [← e]
      exact List.mem_iff_getElem.2 ⟨i, by rw [List.length_take]; omega, by simp⟩
  by_cases hall : ∀ i, i < ss.length → (if h : i < ss.length then !memB ss[i] (ss.take i) else true) = true
  · have hall' : ∀ k (h2 : k < ss.length), memB ss[k] (ss.take k) = false := fun k h2 => by
      have := hall k h2
      rw [dif_pos h2, Bool.not_eq_true'] at this
      exact this
    refine ⟨ss.length, Nat.le_refl _, fun k _ h2 => hall' k h2, .inl ⟨rfl, (onceT_iff ss).2 ?_⟩⟩
    unfold List.Nodup
    refine List.pairwise_iff_getElem.2 fun i j hi hj hij e => ?_
    have := (hmem j hj).2 ⟨i, hij, e⟩
    rw [hall' j hj] at this
    cases this
  · obtain ⟨j, hj, hp, ha⟩ := first_not _ _ hall
    rw [dif_pos hj, Bool.not_eq_false'] at hp
    refine ⟨j, Nat.le_of_lt hj, fun k hk h2 => ?_, .inr ⟨hj, hp, ?_⟩⟩
    · have := ha k hk
      rw [dif_pos h2, Bool.not_eq_true'] at this
      exact this
    · rw [Bool.eq_false_iff]
      intro ho
      have hn := (onceT_iff ss).1 ho
      obtain ⟨i, hi, e⟩ := (hmem j hj).1 hp
      unfold List.Nodup at hn
      exact List.pairwise_iff_getElem.1 hn i j (by omega) hj hi e
set_option maxHeartbeats 1600000 in
theorem rOnce10_any (a : Option Addr) (c : Nat) (ss : List ByteArray) (w : World) (h : HasStrs w a c ss) : Calls Tryz.prog 27 #[.slice a ss.length c] w (BoolS (onceS ss) w) := by
  have HT := Lib.hid (fun k (hk : k ≤ ss.length) x => by
    have := rHas10_any a c (ss.take k) x w (hasStrs_take h k hk)
    rw [List.length_take, Nat.min_eq_left hk] at this
    exact this)
  obtain ⟨J, hJ, hok, hend⟩ := once_end ss
  obtain ⟨R, hR⟩ : ∃ R, onceS ss = R := ⟨_, rfl⟩
  rw [hR] at hend ⊢
  clear hR
  obtain ⟨h1, h2, h3, h4⟩ := h
  unfold maxLen at h2
  rcases h4 with rfl | ⟨b, off, rfl, hb, hcell⟩
  · obtain rfl : R = true := by
      rcases hend with ⟨_, e⟩ | ⟨hj, _⟩
      · exact e
      · simp at hj
    go_enter Tryz.func27, Tryz.ntmps27
    go_wp2
    refine wp_loop_rounds 1 ?_
    rw [rounds_succ]
    go_wp2
    go_ret
    exact ⟨rfl, rfl⟩
  have HC := Lib.hid hcell
  have HOK := Lib.hid hok
  have HE := Lib.hid hend
  clear hcell h3 hok hend
  go_enter Tryz.func27, Tryz.ntmps27
  go_wp2_with fail
  go_loopg [7, 3, 4] ss.length (fun gg i _ _ wr => ∃ k : Nat, k + gg = ss.length ∧ k ≤ J ∧ i = .int .i64 (k : Int) ∧ wr = w)
  case atStart => exact ⟨0, by omega, Nat.zero_le _, rfl, rfl⟩
  case round =>
    obtain ⟨k, hkg, hk, rfl, rfl⟩ := hrel
    cases gk with
    | succ gg =>
      have hkl : k < ss.length := by omega
      have hc1 := HC.out k hkl
      have hcall := HT.out k (by omega) ss[k]
      by_cases hkJ : k = J
      · rcases HE.out with ⟨he, _⟩ | ⟨hj, hq, rfl⟩
        · omega
        · subst hkJ
          rw [hq] at hcall
          have HCA := Lib.hid hcall
          clear hq hcall
          go_wp2_with (go_at_call 31; refine HCA.out.mono ?_; rintro e w2 ⟨rfl, rfl⟩)
          go_ret
          exact ⟨rfl, rfl⟩
      · rw [HOK.out k (by omega) hkl] at hcall
        have HCA := Lib.hid hcall
        clear hcall
        go_wp2_with (go_at_call 31; refine HCA.out.mono ?_; rintro e w2 ⟨rfl, rfl⟩)
        go_roundg gg
        case measure => omega
        case rel => exact ⟨k + 1, by omega, by omega, by go_num, rfl⟩
    | zero =>
      obtain rfl : k = ss.length := by omega
      obtain rfl : R = true := by
        rcases HE.out with ⟨_, e⟩ | ⟨hj, _⟩
        · exact e
        · omega
      go_wp2_with fail
      go_ret
      exact ⟨rfl, rfl⟩
theorem bindL_mem {ss : List ByteArray} {s : ByteArray} (h : s ∈ ss) : s.size ≤ (bindL ss).length := by
  induction ss with
  | nil => cases h
  | cons x ss ih =>
    simp only [bindL, List.flatMap_cons, List.length_append] at *
    have hx : x.data.toList.length = x.size := by simp
    rcases List.mem_cons.1 h with rfl | h
    · omega
    · have := ih h; omega
theorem bindL_pre (ss : List ByteArray) (k : Nat) : (bindL (ss.take k)).length ≤ (bindL ss).length := by
  conv => rhs; rw [← List.take_append_drop k ss]
  simp only [bindL, List.flatMap_append, List.length_append]
  omega
set_option maxHeartbeats 1600000 in
set_option maxRecDepth 100000 in
theorem rbindT_some (b off c : Nat) (ss : List ByteArray) (w : World) (hlc : ss.length ≤ c) (hcm : c ≤ maxLen) (hb : b < w.heap.size)
    (hcell : ∀ i (h : i < ss.length), w.cell? ⟨b, off + i, none⟩ = some (.string ss[i])) (hT : (bindL ss).length ≤ 1000000000) :
    Calls Tryz.prog 100 #[.slice (some ⟨b, off, none⟩) ss.length c] w fun e w' => e = .returned (.string ⟨(bindL ss).toArray⟩) ∧ Below w.heap.size w w' := by
  unfold maxLen at hcm
  have HC := Lib.hid hcell
  have HS := Lib.hid (fun (s : ByteArray) (hs : s ∈ ss) => Nat.le_trans (bindL_mem hs) hT)
  have HP := Lib.hid (fun k => Nat.le_trans (bindL_pre ss k) hT)
  clear hcell hT
  go_enter Tryz.func100, Tryz.ntmps100
  go_wp2_with fail
  go_loopw [3, 8] (fun v i wr => ∃ (k : Nat) (o : ByteArray), k ≤ ss.length ∧ i = .int .i64 k ∧ v = .string o ∧ o.data.toList = bindL (ss.take k) ∧ Below w.heap.size w wr) (fun _ i _ => ss.length - (intOf i).toNat)
  case atStart => exact ⟨0, ⟨#[]⟩, Nat.zero_le _, rfl, rfl, rfl, Below.refl _ _⟩
  case round =>
    obtain ⟨k, o, hk, rfl, rfl, ho, hbl⟩ := hrel
    have hos : o.size ≤ 1000000000 := by
      have hlen := HP.out k
      rw [size_list, ho]; omega
    have HO := Lib.hid ho
    clear ho
    by_cases hkL : k < ss.length
    · have hc := (hbl.cell (p := ⟨b, off + k, none⟩) hb).trans (HC.out k (by omega))
      have hs := HS.out ss[k] (List.getElem_mem _)
      have hnl := numB_len9 (n := ss[k].size) (by omega)
      have htk := Lib.hid (bindL_take ss k hkL)
      have hns : (⟨(numB ss[k].size).toArray⟩ : ByteArray).size ≤ 9 := by rw [size_list]; exact hnl
      obtain ⟨q, hq⟩ : ∃ q : ByteArray, q = ⟨(numB ss[k].size).toArray⟩ := ⟨_, rfl⟩
      have hqd : q.data.toList = numB ss[k].size := by rw [hq]
      have hnum := fun W => rnumber_any ss[k].size W (by omega)
      rw [← hq] at hns hnum
      have HN := Lib.hid hnum
      have HQ := Lib.hid hqd
      have hsum : (o ++ q).size ≤ 1000000009 := by rw [ByteArray.size_append]; omega
      clear hnum hq hqd hnl
      go_wp2_with (go_at_call 139; refine (HN.out _).mono ?_; rintro e w2 ⟨rfl, hb2⟩)
      go_roundw
      case rel => exact ⟨k + 1, (o ++ q) ++ ss[k], by omega, by go_num, rfl, by rw [data_app, data_app, HO.out, HQ.out, htk.out], bthen hbl hb2⟩
      case measure => simp [intOf]; omega
    · obtain rfl : k = ss.length := by omega
      go_wp2
      go_ret
      refine ⟨?_, hbl⟩
      have := HO.out
      rw [List.take_of_length_le (Nat.le_refl _)] at this
      rw [← ba_of_list this]
      rfl
theorem rbindT_any (a : Option Addr) (c : Nat) (ss : List ByteArray) (w : World) (h : HasStrs w a c ss) (hT : (bindL ss).length ≤ 1000000000) :
    Calls Tryz.prog 100 #[.slice a ss.length c] w fun e w' => e = .returned (.string ⟨(bindL ss).toArray⟩) ∧ Below w.heap.size w w' := by
  obtain ⟨h1, h2, h3, h4⟩ := h
  rcases h4 with rfl | ⟨b, off, rfl, hb, hc⟩
  · go_enter Tryz.func100, Tryz.ntmps100
    go_wp2
    refine wp_loop_rounds 1 ?_
    rw [rounds_succ]
    go_wp2
    go_ret
    exact ⟨rfl, Below.refl _ _⟩
  · exact rbindT_some b off c ss w h1 h2 hb hc hT
end Go.Proofs.YtmhekhilgllciaaGreat
/- Which matchers may be, in the order in which the document's own answer asks. Mathematics. -/
namespace Go.Proofs.YtmhekhilgllciaaGreat

theorem rightM_is (m : Mat) : rightM m = (wordsC m.words && (nameC m.name.data.toList && (decide (1 ≤ m.how) && (decide (m.how ≤ 4) && (decide (1 ≤ m.words.length) && (decide (m.words.length ≤ 8) && (decide (2 < m.how) || decide (m.words.length = 1)))))))) := by
  rw [Bool.eq_iff_iff, rightM_iff]
  simp only [Bool.and_eq_true, Bool.or_eq_true, decide_eq_true_eq]
  constructor
  · rintro ⟨h1, h2, h3, h4, h5, h6, h7⟩
    exact ⟨h4, h1, h2, h3, h5, h6, h7.imp (fun h => by omega) id⟩
  · rintro ⟨h1, h2, h3, h4, h5, h6, h7⟩
    exact ⟨h2, h3, h4, h1, h5, h6, h7.imp (fun h => by omega) id⟩

end Go.Proofs.YtmhekhilgllciaaGreat
/- The contracts of the document's own Name, Value, Less of layer 3. -/
namespace Go.Proofs.YtmhekhilgllciaaGreat
open Go.RowKit

set_option maxHeartbeats 1600000 in
theorem rName_any (s : ByteArray) (w : World) (hs : s.size ≤ maxLen) : Calls Tryz.prog 75 #[.string s] w (Bool1 (nameC s.data.toList) w) := by
  unfold maxLen at hs
  by_cases hall : ∀ i (h : i < s.size), okn i s[i] = true
  · have HA := Lib.hid hall
    have hR : nameC s.data.toList = decide (1 ≤ s.size ∧ s.size ≤ 64) := by
      rw [Bool.eq_iff_iff, nameC_iff, decide_eq_true_iff]
      exact ⟨fun h => h.1, fun h => ⟨h, hall⟩⟩
    rw [hR]
    clear hR hall
    go_enter Tryz.func75, Tryz.ntmps75
    go_wp2
    go_loop [3, 4, 5] (fun i _ _ => ∃ k : Nat, k ≤ s.size ∧ i = .int .i64 k) (fun i _ _ => s.size - (intOf i).toNat)
    case atStart => exact ⟨0, Nat.zero_le _, rfl⟩
    case round =>
      obtain ⟨k, hk, rfl⟩ := hrel
      by_cases hkl : k < s.size
      · have hw := (okn_iff _ _).1 (HA.out k hkl)
        by_cases t1 : 97 ≤ s[k].toNat <;> by_cases t2 : s[k].toNat ≤ 122 <;> by_cases t3 : 65 ≤ s[k].toNat <;> by_cases t4 : s[k].toNat ≤ 90 <;> by_cases t5 : s[k].toNat = 95 <;> by_cases t6 : s[k].toNat < 48 <;> by_cases t7 : 57 < s[k].toNat <;> by_cases t8 : k = 0 <;> (try omega)
        all_goals
          first | (have t5b : ((s[k].toNat : Int) == 95) = true := by (rw [beq_iff_eq]; omega)) | (have t5b : ((s[k].toNat : Int) == 95) = false := by (rw [beq_eq_false_iff_ne]; omega))
          first | (have t4b : decide ((s[k].toNat : Int) ≤ 90) = true := by (rw [decide_eq_true_iff]; omega)) | (have t4b : decide ((s[k].toNat : Int) ≤ 90) = false := by (rw [decide_eq_false_iff_not]; omega))
          first | (have t2b : decide ((s[k].toNat : Int) ≤ 122) = true := by (rw [decide_eq_true_iff]; omega)) | (have t2b : decide ((s[k].toNat : Int) ≤ 122) = false := by (rw [decide_eq_false_iff_not]; omega))
          first | (have t8b : ((k : Int) == 0) = true := by (rw [beq_iff_eq]; omega)) | (have t8b : ((k : Int) == 0) = false := by (rw [beq_eq_false_iff_ne]; omega))
          clear hw t5 t8
          go_wp2
          go_round
          case rel => exact ⟨k + 1, by omega, by go_num⟩
          case measure => simp [intOf]; omega
      · by_cases t1 : 1 ≤ s.size <;> by_cases t2 : s.size ≤ 64 <;> (try omega)
        all_goals
          go_wp2
          go_ret
          first | exact ⟨rfl, rfl⟩ | (refine ⟨?_, rfl⟩; simp; omega)
  · obtain ⟨j, hj, hbad, hok⟩ := idx_not s okn hall
    have hR : nameC s.data.toList = false := by
      rw [← Bool.not_eq_true, nameC_iff]
      exact fun h => hall h.2
    have HA := Lib.hid hok
    have HB := Lib.hid hbad
    rw [hR]
    clear hR hall hok hbad
    go_enter Tryz.func75, Tryz.ntmps75
    go_wp2
    go_loop [3, 4, 5] (fun i _ _ => ∃ k : Nat, k ≤ j ∧ i = .int .i64 k) (fun i _ _ => s.size - (intOf i).toNat)
    case atStart => exact ⟨0, Nat.zero_le _, rfl⟩
    case round =>
      obtain ⟨k, hk, rfl⟩ := hrel
      have hks : k < s.size := by omega
      by_cases hkl : k = j
      · subst hkl
        have hw : ¬ okn k s[k] = true := by rw [HB.out]; simp
        rw [okn_iff] at hw
        by_cases t1 : 97 ≤ s[k].toNat <;> by_cases t2 : s[k].toNat ≤ 122 <;> by_cases t3 : 65 ≤ s[k].toNat <;> by_cases t4 : s[k].toNat ≤ 90 <;> by_cases t5 : s[k].toNat = 95 <;> by_cases t6 : s[k].toNat < 48 <;> by_cases t7 : 57 < s[k].toNat <;> by_cases t8 : k = 0 <;> (try omega)
        all_goals
          first | (have t5b : ((s[k].toNat : Int) == 95) = true := by (rw [beq_iff_eq]; omega)) | (have t5b : ((s[k].toNat : Int) == 95) = false := by (rw [beq_eq_false_iff_ne]; omega))
          first | (have t4b : decide ((s[k].toNat : Int) ≤ 90) = true := by (rw [decide_eq_true_iff]; omega)) | (have t4b : decide ((s[k].toNat : Int) ≤ 90) = false := by (rw [decide_eq_false_iff_not]; omega))
          first | (have t2b : decide ((s[k].toNat : Int) ≤ 122) = true := by (rw [decide_eq_true_iff]; omega)) | (have t2b : decide ((s[k].toNat : Int) ≤ 122) = false := by (rw [decide_eq_false_iff_not]; omega))
          first | (have t8b : ((k : Int) == 0) = true := by (rw [beq_iff_eq]; omega)) | (have t8b : ((k : Int) == 0) = false := by (rw [beq_eq_false_iff_ne]; omega))
          clear hw t5 t8
          go_wp2
          go_ret
          exact ⟨rfl, rfl⟩
      · have hw := (okn_iff _ _).1 (HA.out k (by omega))
        by_cases t1 : 97 ≤ s[k].toNat <;> by_cases t2 : s[k].toNat ≤ 122 <;> by_cases t3 : 65 ≤ s[k].toNat <;> by_cases t4 : s[k].toNat ≤ 90 <;> by_cases t5 : s[k].toNat = 95 <;> by_cases t6 : s[k].toNat < 48 <;> by_cases t7 : 57 < s[k].toNat <;> by_cases t8 : k = 0 <;> (try omega)
        all_goals
          first | (have t5b : ((s[k].toNat : Int) == 95) = true := by (rw [beq_iff_eq]; omega)) | (have t5b : ((s[k].toNat : Int) == 95) = false := by (rw [beq_eq_false_iff_ne]; omega))
          first | (have t4b : decide ((s[k].toNat : Int) ≤ 90) = true := by (rw [decide_eq_true_iff]; omega)) | (have t4b : decide ((s[k].toNat : Int) ≤ 90) = false := by (rw [decide_eq_false_iff_not]; omega))
          first | (have t2b : decide ((s[k].toNat : Int) ≤ 122) = true := by (rw [decide_eq_true_iff]; omega)) | (have t2b : decide ((s[k].toNat : Int) ≤ 122) = false := by (rw [decide_eq_false_iff_not]; omega))
          first | (have t8b : ((k : Int) == 0) = true := by (rw [beq_iff_eq]; omega)) | (have t8b : ((k : Int) == 0) = false := by (rw [beq_eq_false_iff_ne]; omega))
          clear hw t5 t8
          go_wp2
          go_round
          case rel => exact ⟨k + 1, by omega, by go_num⟩
          case measure => simp [intOf]; omega

set_option maxHeartbeats 1600000 in
theorem rValue_any (s : ByteArray) (w : World) (hs : s.size ≤ maxLen) : Calls Tryz.prog 179 #[.string s] w (Bool1 (valC s.data.toList) w) := by
  unfold maxLen at hs
  have hl : s.data.toList.length = s.size := by simp
  by_cases hall : s.data.toList.all visC = true
  · have HA := Lib.hid (vis_at hall)
    have hR : valC s.data.toList = decide (1 ≤ s.size ∧ s.size ≤ 64) := by
      unfold valC
      rw [hall, hl, Bool.and_true, ← Bool.decide_and]
    rw [hR]
    clear hR hall hl
    go_enter Tryz.func179, Tryz.ntmps179
    go_wp2
    go_loop [3] (fun i => ∃ k : Nat, k ≤ s.size ∧ i = .int .i64 k) (fun i => s.size - (intOf i).toNat)
    case atStart => exact ⟨0, Nat.zero_le _, rfl⟩
    case round =>
      obtain ⟨k, hk, rfl⟩ := hrel
      by_cases hkl : k < s.size
      · obtain ⟨hw1, hw2⟩ := HA.out k hkl
        go_wp2
        go_round
        case rel => exact ⟨k + 1, by omega, by go_num⟩
        case measure => simp [intOf]; omega
      · by_cases t1 : 1 ≤ s.size <;> by_cases t2 : s.size ≤ 64 <;> (try omega)
        all_goals
          go_wp2
          go_ret
          first | exact ⟨rfl, rfl⟩ | (refine ⟨?_, rfl⟩; simp; omega)
  · obtain ⟨j, hj, hbad, hok⟩ := all_not s hall
    have hR : valC s.data.toList = false := by unfold valC; simp only [Bool.not_eq_true] at hall; rw [hall]; simp
    have HA := Lib.hid hok
    have HB := Lib.hid hbad
    rw [hR]
    clear hR hl hall hok hbad
    go_enter Tryz.func179, Tryz.ntmps179
    go_wp2
    go_loop [3] (fun i => ∃ k : Nat, k ≤ j ∧ i = .int .i64 k) (fun i => s.size - (intOf i).toNat)
    case atStart => exact ⟨0, Nat.zero_le _, rfl⟩
    case round =>
      obtain ⟨k, hk, rfl⟩ := hrel
      by_cases hkl : k = j
      · subst hkl
        have hb := HB.out
        simp only [visC, decide_eq_false_iff_not] at hb
        by_cases h32 : 32 ≤ s[k].toNat
        · have h126 : 126 < s[k].toNat := by omega
          clear hb
          go_wp2
          go_ret
          exact ⟨rfl, rfl⟩
        · clear hb
          go_wp2
          go_ret
          exact ⟨rfl, rfl⟩
      · have hw := HA.out k (by omega)
        simp only [visC, decide_eq_true_eq] at hw
        obtain ⟨hw1, hw2⟩ := hw
        go_wp2
        go_round
        case rel => exact ⟨k + 1, by omega, by go_num⟩
        case measure => simp [intOf]; omega

set_option maxHeartbeats 1600000 in
theorem rLess_any (a b : ByteArray) (w : World) (ha : a.size ≤ maxLen) (_hb : b.size ≤ maxLen) : Calls Tryz.prog 76 #[.string a, .string b] w (Bool2 (lessB a.data.toList b.data.toList) w) := by
  unfold maxLen at ha _hb
  have la : a.data.toList.length = a.size := by simp
  have lb : b.data.toList.length = b.size := by simp
  have LA := Lib.hid la
  have LB := Lib.hid lb
  clear la lb
  go_enter Tryz.func76, Tryz.ntmps76
  go_wp2
  go_loopw [5] (fun i wr => ∃ k n : Nat, k ≤ a.size ∧ k ≤ b.size ∧ i = .int .i64 k ∧ a.data.toList.take k = b.data.toList.take k ∧ wr = w.drewN n) (fun i _ => a.size - (intOf i).toNat)
  case atStart => exact ⟨0, 0, Nat.zero_le _, Nat.zero_le _, rfl, rfl, rfl⟩
  case round =>
    obtain ⟨k, n, hk, hk2, rfl, ht, rfl⟩ := hrel
    have hd := lessB_drop k _ _ (by rw [LA.out]; exact hk) (by rw [LB.out]; exact hk2) ht
    have HT := Lib.hid ht
    clear ht
    by_cases hka : k < a.size
    · by_cases hkb : k < b.size
      · rw [drop_byte a k hka, drop_byte b k hkb] at hd
        by_cases hq : a[k] = b[k]
        · have hq1 : ((a[k].toNat : Int) == (b[k].toNat : Int)) = true := by rw [beq_iff_eq, hq]
          have hq2 : ((a[k].toNat : Int) != (b[k].toNat : Int)) = false := by rw [bne, hq1]; rfl
          have hts : a.data.toList.take (k + 1) = b.data.toList.take (k + 1) := by rw [take_byte a k hka, take_byte b k hkb, HT.out, hq]
          have HTS := Lib.hid hts
          clear hts hq hd
          go_wp2_with fail
          go_quiet (fail)
          go_wp2
          go_roundw
          case rel => exact ⟨k + 1, _, by omega, by omega, by go_num, HTS.out, rfl⟩
          case measure => simp [intOf]; omega
        · have hqn : a[k].toNat ≠ b[k].toNat := fun e => hq (UInt8.toNat_inj.1 e)
          have hq1 : ((a[k].toNat : Int) == (b[k].toNat : Int)) = false := by rw [beq_eq_false_iff_ne]; omega
          have hq2 : ((a[k].toNat : Int) != (b[k].toNat : Int)) = true := by rw [bne, hq1]; rfl
          have hd2 : lessB a.data.toList b.data.toList = decide (a[k].toNat < b[k].toNat) := by
            rw [hd]
            have : (a[k] == b[k]) = false := by rw [beq_eq_false_iff_ne]; exact hq
            simp only [lessB, this, Bool.false_and, Bool.or_false]
            exact decide_eq_decide.2 (by rw [UInt8.lt_iff_toNat_lt])
          have HD := Lib.hid hd2
          clear hq hqn hd hd2
          go_wp2_with fail
          go_quiet (fail)
          go_wp2_with fail
          go_quiet (fail)
          go_wp2
          go_ret
          exact bool2_mk HD.out (by first | exact ⟨_, rfl⟩ | (simp only [World.drewN_drewN]; exact ⟨_, rfl⟩))
      · have hd2 : lessB a.data.toList b.data.toList = decide (a.size < b.size) := by
          rw [hd, show b.data.toList.drop k = [] from List.drop_eq_nil_of_le (by rw [LB.out]; omega)]
          have : ¬ a.size < b.size := by omega
          simp only [this, decide_false]
          cases a.data.toList.drop k <;> rfl
        have HD := Lib.hid hd2
        clear hd hd2
        go_wp2
        go_ret
        exact bool2_mk HD.out (by first | exact ⟨_, rfl⟩ | (simp only [World.drewN_drewN]; exact ⟨_, rfl⟩))
    · have hd2 : lessB a.data.toList b.data.toList = decide (a.size < b.size) := by
        rw [hd, show a.data.toList.drop k = [] from List.drop_eq_nil_of_le (by rw [LA.out]; omega)]
        by_cases hkb : k < b.size
        · rw [drop_byte b k hkb]
          have : a.size < b.size := by omega
          simp [lessB]; omega
        · rw [show b.data.toList.drop k = [] from List.drop_eq_nil_of_le (by rw [LB.out]; omega)]
          have : ¬ a.size < b.size := by omega
          simp [lessB]; omega
      have HD := Lib.hid hd2
      clear hd hd2
      go_wp2
      go_ret
      exact bool2_mk HD.out (by first | exact ⟨_, rfl⟩ | (simp only [World.drewN_drewN]; exact ⟨_, rfl⟩))
end Go.Proofs.YtmhekhilgllciaaGreat
