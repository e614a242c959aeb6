/- The document's own Parse of layer 3: just the texts of sets, read as those. -/
import Derived.Test.YtlejejmcicecgaaLabOO
import Derived.Test.YtlejejmcicecgaaLabH
namespace Go.Proofs.Ytlejejmcicecgaa
open Go.RowKit

theorem readL_suffix : ∀ (s acc v r : Bs), readL s acc = some (v, r) → (∃ p, s = p ++ r) ∧ v.length ≤ acc.length + s.length := by
  intro s acc
  induction s, acc using readL.induct with
  | case1 acc => intro v r h; cases h
  | case2 r0 acc => intro v r h; simp only [readL, Option.some.injEq, Prod.mk.injEq] at h; obtain ⟨rfl, rfl⟩ := h; exact ⟨⟨[34], rfl⟩, by omega⟩
  | case3 acc => intro v r h; simp [readL] at h
  | case4 d r0 acc ih =>
    intro v r h
    rw [readL] at h
    obtain ⟨⟨p, hp⟩, h2⟩ := ih v r h
    exact ⟨⟨92 :: d :: p, by rw [hp]; rfl⟩, by simp at h2 ⊢; omega⟩
  | case5 c r0 acc h1 h2 h3 ih =>
    intro v r h
    rw [readL] at h
    · obtain ⟨⟨p, hp⟩, h2⟩ := ih v r h
      exact ⟨⟨c :: p, by rw [hp]; rfl⟩, by simp at h2 ⊢; omega⟩
    all_goals first | exact h1 | exact h2 | exact h3
theorem rdOne_suffix {d : Bs} {l : Lab} {r : Bs} (h : rdOne d = some (l, r)) : (∃ p, d = p ++ r) ∧ l.1.size ≤ d.length ∧ l.2.size ≤ d.length := by
  unfold rdOne at h
  split at h
  · cases h
  · rename_i c q hd
    split at h
    · cases hq : readL q [] with
      | none => rw [hq] at h; cases h
      | some p =>
        rw [hq] at h
        obtain ⟨v, r'⟩ := p
        simp only [Option.map_some, Option.some.injEq, Prod.mk.injEq] at h
        obtain ⟨rfl, rfl⟩ := h
        obtain ⟨⟨p, hp⟩, hl⟩ := readL_suffix _ _ _ _ hq
        have hlen := congrArg List.length hd
        simp only [List.length_drop, List.length_cons] at hlen
        refine ⟨⟨d.take (eqAt d + 1) ++ (c :: p), ?_⟩, ?_, ?_⟩
        · rw [List.append_assoc, List.cons_append, ← hp, ← hd, List.take_append_drop]
        · simp [ByteArray.size]; omega
        · simp only [ByteArray.size, List.size_toArray]
          simp at hl
          omega
    · cases h
def refP (s : Bs) : List Lab × Bool := match parseL s with | some l => (l, true) | none => ([], false)
def LabsB (ls : List Lab) (b : Bool) (w : World) (e : Ending) (w' : World) : Prop := ∃ a c, e = .returned (.tuple #[.slice a ls.length c, .bool b]) ∧ HasLabs w' a c ls ∧ Below w.heap.size w w'
theorem labsB_nil {b : Bool} {w w' : World} (hb : Below w.heap.size w w') : LabsB [] b w (.returned (.tuple #[.slice none 0 0, .bool b])) w' := ⟨none, 0, rfl, HasLabs.nil _ _ _ (by unfold maxLen; omega), hb⟩
/-- what the loop leaves says whether the text is one -/
theorem ref_no {s : Bs} {o : Option (List Lab × Bs)} (hs : s ≠ [123, 125]) (ho : loopR 9 s [] = o) (h : ∀ ls, o = some (ls, [125]) → rightC ls = true → textL ls = s → False) : refP s = ([], false) := by
  unfold refP
  cases hp : parseL s with
  | none => rfl
  | some ls =>
    obtain ⟨h1, h2⟩ := parseL_sound hp
    have hne : ls ≠ [] := fun e => hs (by rw [← h2, e]; rfl)
    have := loopR_all h1 hne
    rw [h2, ho] at this
    exact absurd h2 (fun e => h ls this h1 e)
theorem ref_yes {s : Bs} {ls : List Lab} (h : rightC ls = true) (e : textL ls = s) : refP s = (ls, true) := by
  unfold refP
  rw [(parseL_iff s ls).2 ⟨h, e⟩]
theorem drop_back {d p r : Bs} (h : d = p ++ r) (s : ByteArray) (k : Nat) (hk : k ≤ s.size) (hd : s.data.toList.drop k = d) : s.data.toList.drop (s.size - r.length) = r ∧ r.length ≤ s.size := by
  have hl := congrArg List.length hd
  rw [h] at hl
  simp only [List.length_drop, Array.length_toList, ByteArray.size_data, List.length_append] at hl
  refine ⟨?_, by omega⟩
  have e : s.size - r.length = k + p.length := by omega
  rw [e, ← List.drop_drop, hd, h, List.drop_left]
end Go.Proofs.Ytlejejmcicecgaa
