/- A line that is left out, put in anywhere: what the text is read as then. Mathematics alone. -/
import Derived.Test.YtolbhhokpelchaaDoorPrtC
import Derived.Lib.Join
namespace Go.Proofs.YtolbhhokpelchaaDoor

theorem runN_shift : ∀ (ls : List Bs) (st : PSt) (n : Nat), runN st (n + 1) ls = match runN st n ls with | .inl x => .inl x | .inr k => .inr (k + 1)
  | [], st, n => rfl
  | l :: ls, st, n => by
    simp only [runN]
    cases stepL st l with
    | none => rfl
    | some s2 =>
      simp only
      exact runN_shift ls s2 (n + 1)
theorem runN_bound : ∀ (ls : List Bs) (st : PSt) (n k : Nat), runN st n ls = .inr k → n ≤ k ∧ k < n + ls.length
  | [], st, n, k, h => by simp [runN] at h
  | l :: ls, st, n, k, h => by
    simp only [runN] at h
    cases hs : stepL st l with
    | none =>
      rw [hs] at h
      simp only [Sum.inr.injEq] at h
      subst h
      simp
    | some s2 =>
      rw [hs] at h
      have := runN_bound ls s2 (n + 1) k h
      simp only [List.length_cons]
      omega
/-- a line's number, where a line is put in behind the first n -/
def bumpI (n : Nat) (A : Int) : Int := if (n : Int) < A then A + 1 else A
theorem bump_no {n : Nat} {A : Int} (h : ¬ (n : Int) < A) : bumpI n A = A := if_neg h
theorem bump_yes {n : Nat} {A : Int} (h : (n : Int) < A) : bumpI n A = A + 1 := if_pos h
theorem notes_parse (a b : List Bs) (x : Bs) (hx : blankL x = true) (hn : ∀ l ∈ a ++ x :: b, ∀ c ∈ l, c ≠ 10) (h1 : (unL (a ++ b)).length ≤ 8192) (h2 : (unL (a ++ x :: b)).length ≤ 8192) :
    parseB (unL (a ++ x :: b)) = ((parseB (unL (a ++ b))).1, (parseB (unL (a ++ b))).2.1, bumpI a.length (parseB (unL (a ++ b))).2.2) := by
  have e1 := lines_un (a ++ b) (fun l hl => hn l (by
    rw [List.mem_append] at hl ⊢
    rcases hl with hl | hl
    · exact .inl hl
    · exact .inr (List.mem_cons_of_mem _ hl)))
  have e2 := lines_un (a ++ x :: b) hn
  have p1 : parseB (unL (a ++ b)) = endP (a ++ b) [] (runN ([], false) 1 (a ++ b)) := by
    unfold parseB
    rw [if_neg (by omega), e1]
  have p2 : parseB (unL (a ++ x :: b)) = endP (a ++ x :: b) [] (runN ([], false) 1 (a ++ x :: b)) := by
    unfold parseB
    rw [if_neg (by omega), e2]
  rw [p1, p2, runN_app, runN_app]
  cases hr : runN ([], false) 1 a with
  | inr k =>
    have := runN_bound _ _ _ _ hr
    simp only [endP]
    rw [bump_no (by omega)]
  | inl st =>
    have hs : stepL st x = some st := by unfold stepL; rw [if_pos hx]
    simp only [runN]
    rw [hs]
    simp only
    rw [runN_shift]
    cases hb : runN st (1 + a.length) b with
    | inr k =>
      have := runN_bound _ _ _ _ hb
      simp only [endP]
      rw [bump_yes (by omega)]
      simp
    | inl st' =>
      simp only [endP]
      by_cases h : ([] : Bs) ≠ [] ∨ st'.2 = true
      · rw [if_pos h, if_pos h]
        simp only
        rw [bump_yes (by simp; omega)]
        simp only [List.length_append, List.length_cons]
        simp only [Prod.mk.injEq, true_and]
        omega
      · rw [if_neg h, if_neg h]
        simp only
        rw [bump_no (by omega)]
theorem join_un : ∀ (ls : List Bs), ls ≠ [] → Lib.join ls [10] ++ [10] = unL ls
  | [], h => absurd rfl h
  | [l], _ => by simp [Lib.join_one, unL]
  | l :: m :: ls, _ => by
    have ih := join_un (m :: ls) (by simp)
    have e : unL (l :: m :: ls) = l ++ [10] ++ unL (m :: ls) := by simp [unL]
    rw [e, ← ih, Lib.join_cons, Lib.join_cons]
    simp [Lib.joinTail]
/-- a text with a byte 10 at its end: its lines -/
theorem ended {s : Bs} (h : Lib.hasSuffix s [10] = true) : s ≠ [] ∧ s = unL (linesB s).1 := by
  rw [Lib.hasSuffix, List.isSuffixOf_iff_suffix] at h
  obtain ⟨t, rfl⟩ := h
  refine ⟨by simp, ?_⟩
  have h2 : (linesB (t ++ [10])).2 = [] := by rw [linesB_snoc]; rfl
  have := unL_lines (t ++ [10])
  rw [h2, List.append_nil] at this
  exact this.symm
end Go.Proofs.YtolbhhokpelchaaDoor
