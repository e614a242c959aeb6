/- What the document's own look at a line that begins a block sees. Mathematics alone. -/
import Derived.Test.YtekcmgajjbdmgabDoorPrsM
namespace Go.Proofs.YtekcmgajjbdmgabDoor

theorem begins_cut (l : Bs) : beginsL l = if 10 ≤ l.length ∧ l.take 7 = preD ∧ l.drop (l.length - 2) = [32, 123] ∧ bwC ((l.drop 7).take (l.length - 9)) = true then some ((l.drop 7).take (l.length - 9)) else none := by
  by_cases h : 10 ≤ l.length ∧ l.take 7 = preD ∧ l.drop (l.length - 2) = [32, 123] ∧ bwC ((l.drop 7).take (l.length - 9)) = true
  · rw [if_pos h, beginsL_iff]
    obtain ⟨h1, h2, h3, h4⟩ := h
    refine ⟨?_, h4⟩
    have e1 := List.take_append_drop 7 l
    have e2 := List.take_append_drop (l.length - 9) (l.drop 7)
    rw [List.drop_drop, show 7 + (l.length - 9) = l.length - 2 by omega, h3] at e2
    rw [e2]
    rw [h2] at e1
    exact e1.symm
  · rw [if_neg h]
    cases hb : beginsL l with
    | none => rfl
    | some m =>
      obtain ⟨rfl, hm⟩ := (beginsL_iff l m).1 hb
      refine absurd ?_ h
      have hm1 : 1 ≤ m.length := by
        simp only [bwC, Bool.and_eq_true, decide_eq_true_eq] at hm
        exact hm.1.1
      have hlen : (preD ++ (m ++ [32, 123])).length = m.length + 9 := by simp [preD]
      have ht : (preD ++ (m ++ [32, 123])).take 7 = preD := by simp [preD]
      have hd : (preD ++ (m ++ [32, 123])).drop 7 = m ++ [32, 123] := by simp [preD]
      refine ⟨by omega, ht, ?_, ?_⟩
      · rw [hlen, show m.length + 9 - 2 = 7 + m.length by omega, ← List.drop_drop, hd]
        simp
      · rw [hd, hlen, show m.length + 9 - 9 = m.length by omega]
        simpa using hm
end Go.Proofs.YtekcmgajjbdmgabDoor
