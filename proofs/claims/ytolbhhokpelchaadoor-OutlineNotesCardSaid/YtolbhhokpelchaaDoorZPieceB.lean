/- A text that is split at its bytes 10: the library's cut and the lines are the same. -/
import Derived.Test.YtolbhhokpelchaaDoorPrsM
import Derived.Test.YtolbhhokpelchaaDoorMg1
import Derived.Test.YtolbhhokpelchaaDoorBlkG
import Derived.Test.YtolbhhokpelchaaDoorStrs
import Derived.Lib.IndexLaws
namespace Go.Proofs.YtolbhhokpelchaaDoor
open Go.RowKit

theorem splitK_lines (sv : Nat) (hsv : sv ≤ 1) : ∀ (k : Nat) (s : Bs), s.count 10 = k → Lib.splitK [10] sv k s = (linesB s).1.map (fun l => l ++ ([10] : Bs).take sv) ++ [(linesB s).2]
  | 0, s, h => by
    rw [linesB_plain s (fun c hc e => by subst e; exact absurd (List.count_pos_iff.2 hc) (by omega))]
    rfl
  | k + 1, s, h => by
    have hm : (10 : UInt8) ∈ s := List.count_pos_iff.1 (by omega)
    have hix : ∃ i : Nat, Lib.indexByte s 10 = i := by
      have h1 := Lib.indexByte_ge s 10
      rcases (by omega : Lib.indexByte s 10 = -1 ∨ 0 ≤ Lib.indexByte s 10) with e | e
      · obtain ⟨j, hj, e2⟩ := List.getElem_of_mem hm
        exact absurd (by rw [List.getElem?_eq_getElem hj, e2]) (Lib.indexByte_none e j)
      · exact ⟨(Lib.indexByte s 10).toNat, by omega⟩
    obtain ⟨i, hi⟩ := hix
    obtain ⟨h1, h2⟩ := Lib.indexByte_some hi
    obtain ⟨hil, hie⟩ := List.getElem?_eq_some_iff.1 h1
    have hsplit : s = s.take i ++ 10 :: s.drop (i + 1) := by
      conv => lhs; rw [← List.take_append_drop i s]
      rw [List.drop_eq_getElem_cons hil, hie]
    have ha : ∀ c ∈ s.take i, c ≠ 10 := by
      intro c hc e
      subst e
      obtain ⟨j, hj, e2⟩ := List.getElem_of_mem hc
      have hji : j < i := by rw [List.length_take] at hj; omega
      refine h2 j hji ?_
      rw [List.getElem?_eq_getElem (by omega)]
      rw [List.getElem_take] at e2
      rw [e2]
    have hc : (s.drop (i + 1)).count 10 = k := by
      rw [hsplit, List.count_append, List.count_cons_self] at h
      have : (s.take i).count 10 = 0 := List.count_eq_zero.2 (fun hm => ha 10 hm rfl)
      omega
    have ih := splitK_lines sv hsv k (s.drop (i + 1)) hc
    have hidx : Lib.index s [10] = (i : Int) := by rw [Lib.index_one, hi]
    unfold Lib.splitK
    rw [if_neg (by rw [hidx]; simp), hidx]
    simp only [Int.toNat_natCast, List.length_singleton]
    rw [ih]
    have e2 : linesB s = (s.take i :: (linesB (s.drop (i + 1))).1, (linesB (s.drop (i + 1))).2) := by
      conv => lhs; rw [hsplit]
      exact linesB_cut _ _ ha
    have e3 : s.take (i + sv) = s.take i ++ ([10] : Bs).take sv := by
      rcases (by omega : sv = 0 ∨ sv = 1) with rfl | rfl
      · simp
      · rw [List.take_succ_eq_append_getElem hil, hie]; rfl
    rw [e2, e3]
    rfl

/-- a text's pieces, each ended line with what ends it, or without -/
def piecesB (sv : Nat) (s : ByteArray) : List ByteArray := ((linesB s.data.toList).1.map fun l => bytesA (l ++ ([10] : Bs).take sv)) ++ [bytesA (linesB s.data.toList).2]
theorem splitB_lines (sv : Nat) (hsv : sv ≤ 1) (s : ByteArray) : Lib.splitB ⟨#[10]⟩ sv (s.data.toList.count 10) s = piecesB sv s := by
  have h := Lib.splitB_data ⟨#[10]⟩ sv (s.data.toList.count 10) s
  rw [show (⟨#[10]⟩ : ByteArray).data.toList = [10] from rfl, splitK_lines sv hsv _ _ rfl] at h
  have h2 : (piecesB sv s).map (·.data.toList) = (linesB s.data.toList).1.map (fun l => l ++ ([10] : Bs).take sv) ++ [(linesB s.data.toList).2] := by
    unfold piecesB
    rw [List.map_append, List.map_map]
    rfl
  rw [← h2] at h
  have inj : ∀ (a b : List ByteArray), a.map (·.data.toList) = b.map (·.data.toList) → a = b := by
    intro a
    induction a with
    | nil => intro b e; cases b with | nil => rfl | cons _ _ => cases e
    | cons x a ih =>
      intro b e
      cases b with
      | nil => cases e
      | cons y b =>
        simp only [List.map_cons, List.cons.injEq] at e
        rw [bytes_ext e.1, ih b e.2]
  exact inj _ _ h
theorem pieces_len (sv : Nat) (s : ByteArray) : (piecesB sv s).length = (linesB s.data.toList).1.length + 1 := by simp [piecesB]
theorem lines_len : ∀ (s : Bs), (∀ l ∈ (linesB s).1, l.length + 1 ≤ s.length) ∧ (linesB s).2.length ≤ s.length ∧ (linesB s).1.length = s.count 10 := by
  intro s
  obtain ⟨t, rfl⟩ : ∃ t : Bs, s = t.reverse := ⟨s.reverse, by simp⟩
  induction t with
  | nil => exact ⟨(fun l hl => by cases hl), Nat.le_refl _, rfl⟩
  | cons c s ih =>
    obtain ⟨h1, h2, h3⟩ := ih
    rw [List.reverse_cons, linesB_snoc]
    unfold lnStep
    by_cases hc : c = 10
    · rw [if_pos hc]
      refine ⟨fun l hl => ?_, by simp, by simp [h3, hc]⟩
      rw [List.mem_append, List.mem_singleton] at hl
      rcases hl with hl | rfl
      · have := h1 l hl; simp at this ⊢; omega
      · simp at h2 ⊢; omega
    · rw [if_neg hc]
      refine ⟨fun l hl => ?_, by simp at h2 ⊢; omega, by rw [h3, List.count_append]; simp [hc]⟩
      have := h1 l hl; simp at this ⊢; omega
theorem hasStrs_row (W : World) (ss : List ByteArray) (T : TypeId) (h : ∀ s ∈ ss, s.size ≤ maxLen) (hl : ss.length ≤ maxLen) : HasStrs (W.alloc (.cells (ss.map Value.string).toArray T)) (some ⟨W.heap.size, 0, none⟩) ss.length ss := by
  refine ⟨Nat.le_refl _, hl, h, .inr ⟨W.heap.size, 0, rfl, by simp, fun i hi => ?_⟩⟩
  rw [Nat.zero_add, World.cell?_alloc_mark W _ T (0, 0) i]
  simp [hi]
theorem pieces_size (sv : Nat) (hsv : sv ≤ 1) (s : ByteArray) : ∀ x ∈ piecesB sv s, x.size ≤ s.size := by
  intro x hx
  obtain ⟨h1, h2, _⟩ := lines_len s.data.toList
  rw [lenB] at h1 h2
  unfold piecesB at hx
  rw [List.mem_append, List.mem_singleton] at hx
  rcases hx with hx | rfl
  · obtain ⟨l, hl, rfl⟩ := List.mem_map.1 hx
    have := h1 l hl
    have e : (bytesA (l ++ ([10] : Bs).take sv)).size = (l ++ ([10] : Bs).take sv).length := bytesA_size _
    rw [e, List.length_append]
    have : (([10] : Bs).take sv).length ≤ 1 := by rw [List.length_take]; simp; omega
    omega
  · have e : (bytesA (linesB s.data.toList).2).size = (linesB s.data.toList).2.length := bytesA_size _
    omega
end Go.Proofs.YtolbhhokpelchaaDoor
