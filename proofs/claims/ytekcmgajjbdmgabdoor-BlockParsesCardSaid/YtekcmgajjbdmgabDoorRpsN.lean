/- What the document's own look at a key's line sees. Mathematics alone. -/
import Derived.Test.YtekcmgajjbdmgabDoorPrsM
namespace Go.Proofs.YtekcmgajjbdmgabDoor

theorem tab_at : ∀ t : Bs, (∀ i (h : i < t.length), t[i] ≠ 9) ∧ t.dropWhile (fun x => !isTab x) = [] ∨ ∃ j, ∃ hj : j < t.length, t[j] = 9 ∧ (∀ i (h : i < j), t[i]'(Nat.lt_trans h hj) ≠ 9) ∧ t.dropWhile (fun x => !isTab x) = 9 :: t.drop (j + 1) ∧ t.takeWhile (fun x => !isTab x) = t.take j
  | [] => .inl ⟨fun i h => by simp at h, rfl⟩
  | c :: t => by
    by_cases hc : c = 9
    · subst hc
      exact .inr ⟨0, by simp, rfl, fun i h => absurd h (Nat.not_lt_zero _), rfl, rfl⟩
    · have h1 : isTab c = false := by simp [isTab, hc]
      rcases tab_at t with ⟨a1, a2⟩ | ⟨j, hj, b1, b2, b3, b4⟩
      · refine .inl ⟨fun i h => ?_, by simp [h1, a2]⟩
        cases i with
        | zero => exact hc
        | succ i => exact a1 i (by simpa using h)
      · refine .inr ⟨j + 1, by simpa using hj, b1, fun i h => ?_, by simp [h1, b3], by simp [h1, b4]⟩
        cases i with
        | zero => exact hc
        | succ i => exact b2 i (by omega)
theorem key_cut (l : Bs) : (∀ i (h : i < l.length), 1 ≤ i → l[i] ≠ 9) ∧ keyL l = none ∨ ∃ j, ∃ hj : j < l.length, 1 ≤ j ∧ l[j] = 9 ∧ (∀ i (h : i < j), 1 ≤ i → l[i]'(Nat.lt_trans h hj) ≠ 9) ∧
    keyL l = if (l[0]'(by omega)) = 9 ∧ bwC ((l.drop 1).take (j - 1)) = true ∧ bvC (l.drop (j + 1)) = true then some ((l.drop 1).take (j - 1), l.drop (j + 1)) else none := by
  cases l with
  | nil => exact .inl ⟨fun i h => by simp at h, rfl⟩
  | cons c t =>
    rcases tab_at t with ⟨a1, a2⟩ | ⟨j, hj, b1, b2, b3, b4⟩
    · refine .inl ⟨fun i h h1 => ?_, ?_⟩
      · cases i with
        | zero => omega
        | succ i => exact a1 i (by simpa using h)
      · simp only [keyL, a2]
        split <;> rfl
    · refine .inr ⟨j + 1, by simpa using hj, by omega, b1, fun i h h1 => ?_, ?_⟩
      · cases i with
        | zero => omega
        | succ i => exact b2 i (by omega)
      · simp only [keyL, b3, b4, List.getElem_cons_zero, List.drop_succ_cons, List.drop_zero, Nat.add_sub_cancel]
        by_cases h1 : c = 9
        · by_cases h2 : bwC (t.take j) = true
          · by_cases h3 : bvC (t.drop (j + 1)) = true
            · simp [h1, h2, h3]
            · simp [h1, h2, h3]
          · simp [h1, h2]
        · simp [h1]
end Go.Proofs.YtekcmgajjbdmgabDoor
