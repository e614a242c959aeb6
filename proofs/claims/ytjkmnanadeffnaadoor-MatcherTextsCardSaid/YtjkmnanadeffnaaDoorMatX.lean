/- What matcher.Parse reads is just the texts of the matchers that may be. Mathematics alone. -/
import Derived.Test.YtjkmnanadeffnaaDoorMatQ
namespace Go.Proofs.YtjkmnanadeffnaaDoor

/-- the words of a text, joined -/
def joinB : List Bs → Bs
  | [] => []
  | s :: r => s ++ r.flatMap fun x => 124 :: x
theorem joinW_B (ws : List ByteArray) : joinW ws = joinB (ws.map (·.data.toList)) := by
  cases ws with
  | nil => rfl
  | cons s r => simp [joinW, joinB, List.flatMap_map]
theorem joinB_split : ∀ (k : Nat) (s : Bs), joinB (Lib.splitK [124] 0 k s) = s ∧ Lib.splitK [124] 0 k s ≠ []
  | 0, s => by simp [Lib.splitK, joinB]
  | k + 1, s => by
    unfold Lib.splitK
    split
    · simp [joinB]
    · rename_i h
      have hi : 0 ≤ Lib.index s [124] := by
        have := Lib.index_ge s [124]
        have hne : Lib.index s [124] ≠ -1 := fun e => h (by rw [e]; rfl)
        omega
      rcases Lib.index_spec s [124] with ⟨h1, _⟩ | ⟨i, h1, h2, h3, _⟩
      · omega
      · obtain ⟨ih, ihn⟩ := joinB_split k (s.drop ((Lib.index s [124]).toNat + ([124] : Bs).length))
        rw [h1] at ih ihn ⊢
        have e : ((i : Int)).toNat = i := by omega
        rw [e] at ih ihn ⊢
        refine ⟨?_, by simp⟩
        obtain ⟨x, r, hxr⟩ : ∃ x r, Lib.splitK [124] 0 k (s.drop (i + ([124] : Bs).length)) = x :: r := by
          cases hq : Lib.splitK [124] 0 k (s.drop (i + ([124] : Bs).length)) with
          | nil => exact absurd hq ihn
          | cons x r => exact ⟨x, r, rfl⟩
        rw [hxr] at ih ⊢
        have hat : s.drop i = 124 :: s.drop (i + 1) := by
          have ho : ([124] : Bs).isPrefixOf (s.drop i) = true := h3
          cases hd : s.drop i with
          | nil => rw [hd] at ho; cases ho
          | cons y t =>
            rw [hd] at ho
            simp only [List.isPrefixOf, Bool.and_true, beq_iff_eq] at ho
            have : s.drop (i + 1) = t := by rw [← List.drop_drop, hd]; rfl
            rw [this, ← ho]
        conv => rhs; rw [← List.take_append_drop i s, hat]
        have ih' : x ++ r.flatMap (fun y => 124 :: y) = s.drop (i + 1) := ih
        simp only [joinB, List.flatMap_cons, Nat.add_zero]
        rw [← ih']
        simp
/-- a text that no cut of it has a bar in, split -/
theorem split_join : ∀ (ws : List Bs) (k : Nat), ws ≠ [] → (∀ x ∈ ws, (124 : UInt8) ∉ x) → ws.length ≤ k + 1 → Lib.splitK [124] 0 k (joinB ws) = ws
  | [], _, h, _, _ => absurd rfl h
  | [x], k, _, hx, _ => by
    have h0 : Lib.index x [124] = -1 := by
      rcases Lib.index_spec x [124] with ⟨h1, _⟩ | ⟨i, h1, h2, h3, _⟩
      · exact h1
      · exfalso
        have ho : ([124] : Bs).isPrefixOf (x.drop i) = true := h3
        cases hd : x.drop i with
        | nil => rw [hd] at ho; cases ho
        | cons y t =>
          rw [hd] at ho
          simp only [List.isPrefixOf, Bool.and_true, beq_iff_eq] at ho
          refine hx x (by simp) ?_
          rw [ho]
          exact List.mem_of_mem_drop (by rw [hd]; simp)
    cases k with
    | zero => simp [Lib.splitK, joinB]
    | succ k => simp [Lib.splitK, joinB, h0]
  | x :: y :: r, 0, _, _, h => by simp at h
  | x :: y :: r, k + 1, _, hx, h => by
    have hj : joinB (x :: y :: r) = x ++ 124 :: joinB (y :: r) := by simp [joinB]
    have at124 : ∀ (t : Bs) (j : Nat), Lib.occAt t [124] j = true → ∃ u, t.drop j = 124 :: u := by
      intro t j ho
      have ho : ([124] : Bs).isPrefixOf (t.drop j) = true := ho
      cases hd : t.drop j with
      | nil => rw [hd] at ho; cases ho
      | cons z u =>
        rw [hd] at ho
        simp only [List.isPrefixOf, Bool.and_true, beq_iff_eq] at ho
        exact ⟨u, by rw [← ho]⟩
    have hx0 : ∀ j, j < x.length → Lib.occAt (joinB (x :: y :: r)) [124] j ≠ true := by
      intro j hlt ho
      obtain ⟨u, hu⟩ := at124 _ _ ho
      rw [hj, List.drop_append_of_le_length (by omega)] at hu
      have hn : x.drop j ≠ [] := by simp; omega
      cases hd : x.drop j with
      | nil => exact hn hd
      | cons z v =>
        rw [hd] at hu
        simp only [List.cons_append, List.cons.injEq] at hu
        exact hx x (by simp) (List.mem_of_mem_drop (i := j) (by rw [hd, hu.1]; simp))
    have hxl : Lib.occAt (joinB (x :: y :: r)) [124] x.length = true := by
      show ([124] : Bs).isPrefixOf ((joinB (x :: y :: r)).drop x.length) = true
      rw [hj, List.drop_left]
      simp [List.isPrefixOf]
    have hi : Lib.index (joinB (x :: y :: r)) [124] = (x.length : Int) := by
      rcases Lib.index_spec (joinB (x :: y :: r)) [124] with ⟨_, h2⟩ | ⟨i, h1, _, h3, h4⟩
      · have := h2 x.length (by rw [hj]; simp)
        rw [hxl] at this; cases this
      · have hle : ¬ x.length < i := fun hlt => by
          have := h4 x.length hlt
          rw [hxl] at this; cases this
        have hge : ¬ i < x.length := fun hlt => hx0 i hlt h3
        rw [h1]; congr 1; omega
    have ih := split_join (y :: r) k (by simp) (fun z hz => hx z (by simp [hz])) (by simp at h ⊢; omega)
    unfold Lib.splitK
    rw [hi, if_neg (by rw [beq_iff_eq]; omega)]
    have e : ((x.length : Int)).toNat = x.length := by omega
    rw [e]
    have ed : (joinB (x :: y :: r)).drop (x.length + ([124] : Bs).length) = joinB (y :: r) := by
      rw [hj, ← List.drop_drop, List.drop_left]; rfl
    have et : (joinB (x :: y :: r)).take (x.length + 0) = x := by rw [hj, Nat.add_zero, List.take_left]
    rw [ed, et, ih]
end Go.Proofs.YtjkmnanadeffnaaDoor
