/- Labels in order: mathematics alone. -/
import Derived.Test.YtmhekhilgllciaaGreatLabM
namespace Go.Proofs.YtmhekhilgllciaaGreat

/-- in order: no later one is below an earlier one -/
def WS (ls : List Lab) : Prop := ls.Pairwise fun a b => ltL b a = false
theorem WS.of_asc {ls : List Lab} (h : Asc ls) : WS ls := h.imp fun h => ltL_asymm h
theorem asc_uniq : ∀ (xs ys : List Lab), Asc xs → WS ys → ys.Perm xs → ys = xs
  | [], ys, _, _, h => List.Perm.eq_nil h
  | x :: xs, [], _, _, h => absurd h.symm (by intro h; exact absurd (List.Perm.eq_nil h) (by simp))
  | x :: xs, y :: ys, hx, hy, h => by
    obtain ⟨hx1, hx2⟩ := List.pairwise_cons.1 hx
    obtain ⟨hy1, hy2⟩ := List.pairwise_cons.1 hy
    have hyx : y = x := by
      have hm : y ∈ x :: xs := h.subset (by simp)
      rcases List.mem_cons.1 hm with rfl | hm
      · rfl
      · have hlt := hx1 y hm
        have hm2 : x ∈ y :: ys := h.symm.subset (by simp)
        rcases List.mem_cons.1 hm2 with e | hm2
        · exact e.symm
        · have := hy1 x hm2
          rw [hlt] at this; cases this
    subst hyx
    rw [asc_uniq xs ys hx2 hy2 ((List.perm_cons y).1 h)]
def sortL (ls : List Lab) : List Lab := ls.mergeSort fun a b => !ltL b a
theorem sortL_perm (ls : List Lab) : (sortL ls).Perm ls := List.mergeSort_perm _ _
theorem ltL_ntrans {a b c : Lab} (h : ltL a b = false) (g : ltL b c = false) : ltL a c = false := by
  cases e : ltL a c with
  | false => rfl
  | true =>
    cases e2 : ltL b a with
    | true => have := ltL_trans e2 e; rw [g] at this; cases this
    | false =>
      have := ltL_tri h e2
      unfold ltL at e g
      rw [this] at e
      rw [e] at g; cases g
theorem sortL_ws (ls : List Lab) : WS (sortL ls) := by
  have h := List.pairwise_mergeSort (le := fun a b => !ltL b a) (by
    intro a b c h g
    simp only [Bool.not_eq_true'] at *
    exact ltL_ntrans g h) (by
    intro a b
    cases e : ltL b a with
    | false => simp
    | true => simp [ltL_asymm e]) ls
  exact h.imp fun h => by simpa using h
theorem sort_right {ls out : List Lab} (hp : out.Perm ls) (hs : WS out) (hl : ∀ l ∈ ls, labC l = true) (h8 : ls.length ≤ 8) : (rightC out = rightC (sortL ls)) ∧ (rightC out = true → out = sortL ls) := by
  have hl1 : ∀ l ∈ out, labC l = true := fun l h => hl l (hp.subset h)
  have hl2 : ∀ l ∈ sortL ls, labC l = true := fun l h => hl l ((sortL_perm ls).subset h)
  have h1 : out.length ≤ 8 := by rw [hp.length_eq]; exact h8
  have h2 : (sortL ls).length ≤ 8 := by rw [(sortL_perm ls).length_eq]; exact h8
  have hpp : out.Perm (sortL ls) := hp.trans (sortL_perm ls).symm
  have key : rightC out = true → out = sortL ls := fun h =>
    (asc_uniq out (sortL ls) ((rightC_iff out).1 h).2.2 (sortL_ws ls) hpp.symm).symm
  refine ⟨?_, key⟩
  rw [Bool.eq_iff_iff]
  constructor
  · intro h; rw [← key h]; exact h
  · intro h
    have := asc_uniq (sortL ls) out ((rightC_iff _).1 h).2.2 hs hpp
    rw [this]; exact h
def newP (ls : List Lab) : List Lab × Int :=
  if ls.length ≤ 8 then
    if (ls.all labC) = true then
      if rightC (sortL ls) = true then (sortL ls, 0) else ([], 10)
    else ([], 1)
  else ([], 2)
/-- the first two neighbours of one name, in a row that is in order -/
theorem ws_adj {ls : List Lab} (h : WS ls) (hl : ∀ l ∈ ls, labC l = true) (h8 : ls.length ≤ 8) :
    ∃ J, J ≤ ls.length ∧ (∀ k (_h : k + 1 < ls.length) (_h2 : k + 1 < J ∨ J = ls.length), ls[k].1 ≠ ls[k + 1].1) ∧ (J = ls.length ∧ rightC ls = true ∨ ∃ m, ∃ hm : m + 1 < ls.length, J = m + 1 ∧ ls[m].1 = ls[m + 1].1 ∧ rightC ls = false) := by
  by_cases ha : ∀ k (hk : k + 1 < ls.length), ls[k].1 ≠ ls[k + 1].1
  · refine ⟨ls.length, Nat.le_refl _, fun k hk _ => ha k hk, .inl ⟨rfl, (rightC_iff ls).2 ⟨h8, hl, asc_of_adj ls fun j hj => ?_⟩⟩⟩
    have h1 := List.pairwise_iff_getElem.1 h j (j + 1) (by omega) hj (by omega)
    cases e : ltL ls[j] ls[j + 1] with
    | true => rfl
    | false => exact absurd (ltL_tri e h1) (ha j hj)
  · obtain ⟨j, hj, hb, hall⟩ := first_not (fun k => if h : k + 1 < ls.length then decide (ls[k].1 ≠ ls[k + 1].1) else true) ls.length (fun hall => ha fun k hk => by
      have := hall k (by omega)
      simp only [hk, dite_true, decide_eq_true_eq] at this
      exact this)
    have hj1 : j + 1 < ls.length := by
      rcases Nat.lt_or_ge (j + 1) ls.length with g | g
      · exact g
      · have : ¬ j + 1 < ls.length := by omega
        simp [this] at hb
    have hne : ls[j].1 = ls[j + 1].1 := by simpa [hj1] using hb
    refine ⟨j + 1, by omega, fun k hk hkJ => ?_, .inr ⟨j, hj1, rfl, hne, ?_⟩⟩
    · rcases hkJ with hkJ | hkJ
      · have := hall k (by omega)
        simpa [hk] using this
      · omega
    · rw [← Bool.not_eq_true]
      intro hr
      have := List.pairwise_iff_getElem.1 ((rightC_iff ls).1 hr).2.2 j (j + 1) (by omega) hj1 (by omega)
      exact ltL_ne this hne
end Go.Proofs.YtmhekhilgllciaaGreat
