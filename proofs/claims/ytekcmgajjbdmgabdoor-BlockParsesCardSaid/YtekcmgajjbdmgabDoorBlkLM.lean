/- When two rows of blocks are alike: where a walk over them ends. Mathematics alone. -/
import Derived.Test.YtekcmgajjbdmgabDoorBlkE
namespace Go.Proofs.YtekcmgajjbdmgabDoor

theorem like_end : ∀ (a b : List Dfn), a.length = b.length → ∃ J, J ≤ a.length ∧ (∀ k (_h : k < J) (h2 : k < a.length) (h3 : k < b.length), likeD a[k] b[k] = true) ∧
    (J = a.length ∧ likeDs a b = true ∨ ∃ hj : J < a.length, ∃ hj2 : J < b.length, likeD a[J] b[J] = false ∧ likeDs a b = false)
  | [], [], _ => ⟨0, Nat.le_refl _, fun k hk => absurd hk (by omega), .inl ⟨rfl, rfl⟩⟩
  | [], _ :: _, h => by simp at h
  | _ :: _, [], h => by simp at h
  | x :: a, y :: b, h => by
    cases hxy : likeD x y with
    | false => exact ⟨0, Nat.zero_le _, fun k hk => absurd hk (by omega), .inr ⟨by simp, by simp, hxy, by simp [likeDs, hxy]⟩⟩
    | true =>
      obtain ⟨J, hJ, hok, hend⟩ := like_end a b (by simpa using h)
      refine ⟨J + 1, by simpa using hJ, fun k hk h2 h3 => ?_, ?_⟩
      · match k, hk, h2, h3 with
        | 0, _, _, _ => exact hxy
        | k + 1, hk, h2, h3 => exact hok k (by omega) (by simpa using h2) (by simpa using h3)
      · rcases hend with ⟨rfl, h1⟩ | ⟨hj, hj2, h1, h2⟩
        · exact .inl ⟨rfl, by simp [likeDs, hxy, h1]⟩
        · exact .inr ⟨by simpa using hj, by simpa using hj2, h1, by simp [likeDs, h2]⟩
theorem likeDs_len : ∀ (a b : List Dfn), a.length ≠ b.length → likeDs a b = false
  | [], [], h => absurd rfl h
  | [], _ :: _, _ => rfl
  | _ :: _, [], _ => rfl
  | x :: a, y :: b, h => by simp [likeDs, likeDs_len a b (by simpa using h)]
end Go.Proofs.YtekcmgajjbdmgabDoor
