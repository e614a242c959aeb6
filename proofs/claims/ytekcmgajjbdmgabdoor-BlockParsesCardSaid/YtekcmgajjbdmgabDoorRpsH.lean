/- The document's own 'line', whole; what is known of the document's own Parse at a byte. -/
import Derived.Test.YtekcmgajjbdmgabDoorRpsG
import Derived.Test.YtekcmgajjbdmgabDoorPrsH
import Derived.Test.YtekcmgajjbdmgabDoorPrtM
namespace Go.Proofs.YtekcmgajjbdmgabDoor
open Go.RowKit

theorem line_any (B : Nat) (st : PSt) (v : Value) (s : ByteArray) (w : World) (h : SAt w B v st.1) (hg : Good st) (hs : s.size ≤ 9000) :
    Calls Tryd.prog 28 #[.agg #[v, .bool st.2, .bool true], .string s] w (LinP B st s.data.toList w) := by
  obtain ⟨ds, op⟩ := st
  obtain ⟨hg1, hg2, hg3⟩ := hg
  simp only at h hg1 hg2 hg3 ⊢
  cases op with
  | false => exact line_out B ds v s w h hg2 hs
  | true =>
    by_cases he : s = ⟨#[125]⟩
    · subst he; exact line_end B ds v w h
    · cases hk : keyL s.data.toList with
      | none => exact line_no B ds v s w h hs he hk
      | some kv =>
        obtain ⟨k, u⟩ := kv
        cases hl : ds.getLast? with
        | none => rw [List.getLast?_eq_none_iff] at hl; exact absurd hl (hg3 rfl)
        | some d =>
          have hd := hg1 d (good_last hl)
          cases hm : memB (bytesA k) d.keys with
          | true => exact line_full B ds d v s k u w h hg2 hs he hl hk (.inl hm)
          | false =>
            by_cases h64 : d.keys.length = 64
            · exact line_full B ds d v s k u w h hg2 hs he hl hk (.inr ⟨hm, h64⟩)
            · exact line_grow B ds d v s k u w h hg2 hs he hl hk hm (by omega) (by omega)

/-- what is known at byte i: the lines so far, what stands behind them, where that begins, and where the lines lead -/
def AtByte (l : Bs) (i : Nat) (ls : List Bs) (r : Bs) (frm : Nat) (st : PSt) : Prop :=
  linesB (l.take i) = (ls, r) ∧ runN ([], false) 1 ls = .inl st ∧ frm + r.length = i ∧ (l.take i).drop frm = r ∧ Good st
theorem atByte_start (l : Bs) : AtByte l 0 [] [] 0 ([], false) := ⟨rfl, rfl, rfl, rfl, good_nil⟩
theorem take_snoc (l : Bs) (i : Nat) (h : i < l.length) : l.take (i + 1) = l.take i ++ [l[i]] := by rw [List.take_succ_eq_append_getElem h]
theorem atByte_on {l : Bs} {i : Nat} {ls : List Bs} {r : Bs} {frm : Nat} {st : PSt} (h : AtByte l i ls r frm st) (hi : i < l.length) (hc : l[i] ≠ 10) : AtByte l (i + 1) ls (r ++ [l[i]]) frm st := by
  obtain ⟨h1, h2, h3, h4, h5⟩ := h
  refine ⟨?_, h2, by simp; omega, ?_, h5⟩
  · rw [take_snoc l i hi, linesB_snoc, h1]
    simp [lnStep, hc]
  · rw [take_snoc l i hi, List.drop_append_of_le_length (by rw [List.length_take]; omega), h4]
theorem atByte_line {l : Bs} {i : Nat} {ls : List Bs} {r : Bs} {frm : Nat} {st st' : PSt} (h : AtByte l i ls r frm st) (hi : i < l.length) (hc : l[i] = 10) (hs : stepL st r = some st') : AtByte l (i + 1) (ls ++ [r]) [] (i + 1) st' := by
  obtain ⟨h1, h2, h3, h4, h5⟩ := h
  refine ⟨?_, ?_, by simp, ?_, good_step h5 hs⟩
  · rw [take_snoc l i hi, linesB_snoc, h1]
    simp [lnStep, hc]
  · rw [runN_app, h2]
    simp only [runN, hs]
  · rw [List.drop_eq_nil_of_le (by rw [List.length_take]; omega)]
theorem atByte_bad {l : Bs} {i : Nat} {ls : List Bs} {r : Bs} {frm : Nat} {st : PSt} (h : AtByte l i ls r frm st) (hi : i < l.length) (hc : l[i] = 10) (hs : stepL st r = none) (h8 : l.length ≤ 8192) : parseB l = ([], 250, (ls.length : Int) + 1) := by
  obtain ⟨h1, h2, h3, h4, h5⟩ := h
  have e1 : linesB (l.take (i + 1)) = (ls ++ [r], []) := by
    rw [take_snoc l i hi, linesB_snoc, h1]
    simp [lnStep, hc]
  have e2 : linesB l = (ls ++ [r] ++ (linesB (l.drop (i + 1))).1, (linesB (l.drop (i + 1))).2) := by
    have := linesB_app (l.take (i + 1)) (l.drop (i + 1)) (by rw [e1])
    rw [List.take_append_drop, e1] at this
    exact this
  unfold parseB
  rw [if_neg (by omega), e2]
  simp only
  rw [runN_app, runN_app, h2]
  simp only [runN, hs, endP]
  congr 2
  omega
theorem atByte_end {l : Bs} {ls : List Bs} {r : Bs} {frm : Nat} {st : PSt} (h : AtByte l l.length ls r frm st) (h8 : l.length ≤ 8192) : parseB l = if r ≠ [] ∨ st.2 = true then ([], 250, (ls.length : Int) + 1) else (st.1, 0, 0) := by
  obtain ⟨h1, h2, _, _, _⟩ := h
  rw [List.take_length] at h1
  unfold parseB
  rw [if_neg (by omega), h1]
  simp only
  rw [h2]
  rfl
theorem stepL_blank {st : PSt} {r : Bs} (h : blankL r = true) : stepL st r = some st := by unfold stepL; rw [if_pos h]
theorem stepL_line {st : PSt} {r : Bs} (h : blankL r = false) : stepL st r = lineS st r := by unfold stepL; rw [if_neg (by rw [h]; simp)]
end Go.Proofs.YtekcmgajjbdmgabDoor
