/- The contracts of block.within: where it ends a block, and where a line is no key's. -/
import Derived.Test.YtekcmgajjbdmgabDoorPrsC
import Derived.Test.YtekcmgajjbdmgabDoorMaxC
import Derived.Test.YtekcmgajjbdmgabDoorLater
import Derived.Deep.QuietTactic
import Derived.BigQuiet
import Derived.IntWalk
namespace Go.Proofs.YtekcmgajjbdmgabDoor
open Go.RowKit

/-- the cells of a row of blocks -/
theorem OwnD.at {T : TypeId} {w : World} {base : Nat} {a : Option Addr} {n c : Nat} {qs : List DefAt} (h : OwnD T w base (.slice a n c) qs) (i : Nat) (hi : i < qs.length) :
    ∃ g, a = some ⟨g, 0, none⟩ ∧ base ≤ g ∧ g < w.heap.size ∧ n = qs.length ∧ n ≤ c ∧ c ≤ maxLen ∧ w.cell? ⟨g, i * 3, none⟩ = some (.string qs[i].d.kind) ∧ w.cell? ⟨g, i * 3 + 1, none⟩ = some (.slice qs[i].ka qs[i].d.keys.length qs[i].kc) ∧ w.cell? ⟨g, i * 3 + 2, none⟩ = some (.slice qs[i].va qs[i].d.vals.length qs[i].vc) ∧ ∀ j, w.frozen? ⟨g, j, none⟩ = false := by
  have h' : w.ownsRow base T 3 (.slice a n c) qs.length (defsV qs) := h
  rcases h'.2 with ⟨e, h0⟩ | ⟨g, cap, cur, e, hb, hg, hn, hm, hcs, ht⟩
  · rw [h0] at hi; cases hi
  · have h'' := h'
    simp only [Value.slice.injEq] at e
    obtain ⟨rfl, rfl, rfl⟩ := e
    have hl : (defsV qs).length = qs.length * 3 := defsV_len qs
    obtain ⟨g1, g2, g3⟩ := defsV_get qs i hi
    refine ⟨g, rfl, hb, lt_of_block hg, rfl, hn, hm, ?_, ?_, ?_, fun j => ?_⟩
    · rw [h''.cellAt (i * 3) (by omega), g1]
    · rw [h''.cellAt (i * 3 + 1) (by omega), g2]
    · rw [h''.cellAt (i * 3 + 2) (by omega), g3]
    · simp [World.frozen?, hg]
theorem cut9_len (l : Bs) : (Lib.cut l [9]).1.length ≤ l.length ∧ (Lib.cut l [9]).2.1.length ≤ l.length := by
  rw [cut_tab]
  cases h : l.dropWhile (fun x => !isTab x) with
  | nil => exact ⟨Nat.le_refl _, Nat.zero_le _⟩
  | cons x v =>
    have h1 := (List.dropWhile_suffix (fun x => !isTab x) (l := l)).length_le
    have h2 := (List.takeWhile_prefix (fun x => !isTab x) (l := l)).length_le
    rw [h, List.length_cons] at h1
    exact ⟨h2, by show v.length ≤ _; omega⟩
theorem cut9_any (s : ByteArray) (w : World) (hm : MaxC w) (hs : s.size < 4294967281) : Calls Tryd.prog 34 #[.string s, .string ⟨#[9]⟩] w fun e w' => e = .returned (.tuple #[.string (bytesA (Lib.cut s.data.toList [9]).1), .string (bytesA (Lib.cut s.data.toList [9]).2.1), .bool (Lib.cut s.data.toList [9]).2.2]) ∧ Below w.heap.size w w' := by
  obtain ⟨m, hm⟩ := hm
  exact (Tryd.strings_Cut s ⟨#[9]⟩ m w hs hm).mono fun _ _ ⟨h1, n, h2⟩ => ⟨h1, by rw [h2]; exact drawn_below (Below.refl _ _) n⟩

/-- what a line is within a block, in the order in which it is asked -/
structure WLine where
  S : ByteArray
  B : ByteArray
  K : ByteArray
  V : ByteArray
  E : Bool
  G : Bool
  F : Bool
def WLine.of (s : ByteArray) (l : WLine) : Prop :=
  (∀ W, Calls Tryd.prog 44 #[.string s, .string ⟨#[10]⟩] W fun e w' => e = .returned (.tuple #[.string l.S, .bool l.E]) ∧ W = w') ∧
  (∀ W, Calls Tryd.prog 43 #[.string l.S, .string ⟨#[9]⟩] W fun e w' => e = .returned (.tuple #[.string l.B, .bool l.G]) ∧ W = w') ∧
  (∀ W, MaxC W → Calls Tryd.prog 34 #[.string l.B, .string ⟨#[9]⟩] W fun e w' => e = .returned (.tuple #[.string l.K, .string l.V, .bool l.F]) ∧ Below W.heap.size W w') ∧
  l.K.size ≤ maxLen ∧ l.V.size ≤ maxLen ∧ withD s.data.toList = if l.E = true ∧ l.G = true ∧ bwC l.K.data.toList = true ∧ bvC l.V.data.toList = true then some (l.K.data.toList, l.V.data.toList) else none
theorem wline (s : ByteArray) (hs : s.size ≤ 100000) : ∃ l, WLine.of s l := by
  have l1 := trimSuf_len s.data.toList [10]
  have l2 := trimPre_len (saidD s.data.toList) [9]
  have l3 := cut9_len (behD s.data.toList)
  rw [lenB] at l1
  have e1 : (bytesA (saidD s.data.toList)).size = (saidD s.data.toList).length := bytesA_size _
  have e2 : (bytesA (behD s.data.toList)).size = (behD s.data.toList).length := bytesA_size _
  have e3 : (bytesA (cutD9 s.data.toList).1).size = (cutD9 s.data.toList).1.length := bytesA_size _
  have e4 : (bytesA (cutD9 s.data.toList).2.1).size = (cutD9 s.data.toList).2.1.length := bytesA_size _
  have l1' : (saidD s.data.toList).length ≤ s.size := l1
  have l2' : (behD s.data.toList).length ≤ (saidD s.data.toList).length := l2
  have l3' : (cutD9 s.data.toList).1.length ≤ (behD s.data.toList).length := l3.1
  have l4' : (cutD9 s.data.toList).2.1.length ≤ (behD s.data.toList).length := l3.2
  refine ⟨⟨bytesA (saidD s.data.toList), bytesA (behD s.data.toList), bytesA (cutD9 s.data.toList).1, bytesA (cutD9 s.data.toList).2.1, Lib.hasSuffix s.data.toList [10], Lib.hasPrefix (saidD s.data.toList) [9], (cutD9 s.data.toList).2.2⟩, fun W => cutSuf_any s ⟨#[10]⟩ W (by unfold maxLen; omega), fun W => cutPre_any (bytesA (saidD s.data.toList)) ⟨#[9]⟩ W, fun W hm => cut9_any (bytesA (behD s.data.toList)) W hm (by omega), ?_, ?_, rfl⟩
  · show (bytesA _).size ≤ _; unfold maxLen; omega
  · show (bytesA _).size ≤ _; unfold maxLen; omega

theorem strNe2 (s : ByteArray) (h : s ≠ ⟨#[125, 10]⟩) : (s.toList == [125, 10]) = false := by
  have e : ByteArray.toList ⟨#[125, 10]⟩ = [125, 10] := by rw [ByteArray.toList_eq]
  rw [← e, strEq]
  exact decide_eq_false h
/-- the line that ends a block -/
theorem within_end (a : Value) (w : World) : Calls Tryd.prog 46 #[a, .string ⟨#[125, 10]⟩] w fun e w' => e = .returned outV ∧ w = w' := by
  go_enter Tryd.func46, Tryd.ntmps46
  go_wp2
  go_ret
  exact ⟨rfl, rfl⟩

set_option maxHeartbeats 3200000 in
set_option maxRecDepth 100000 in
/-- a line that is no key's -/
theorem within_not (a : Value) (s : ByteArray) (w : World) (hm : MaxC w) (hs : s.size ≤ 100000) (hne : s ≠ ⟨#[125, 10]⟩) (hno : withD s.data.toList = none) :
    Calls Tryd.prog 46 #[a, .string s] w fun e w' => e = .returned .nilFunc ∧ Below w.heap.size w w' := by
  have hq := strNe2 s hne
  obtain ⟨⟨S, B, K, V, E, G, F⟩, h1, h2, h3, h4, h5, h6⟩ := wline s hs
  rw [h6] at hno
  have hw := fun W => bWord_any K W h4
  have hv := fun W => bValue_any V W h5
  simp only at h1 h2 h3 hno hw hv
  obtain ⟨P3, hP3⟩ : ∃ P3, bwC K.data.toList = P3 := ⟨_, rfl⟩
  obtain ⟨P4, hP4⟩ : ∃ P4, bvC V.data.toList = P4 := ⟨_, rfl⟩
  rw [hP3] at hw hno
  rw [hP4] at hv hno
  have H1 := Lib.hid h1
  have H2 := Lib.hid h2
  have H3 := Lib.hid (h3 w hm)
  have HW := Lib.hid hw
  have HV := Lib.hid hv
  have hno2 : E = false ∨ E = true ∧ G = false ∨ E = true ∧ G = true ∧ P3 = false ∨ E = true ∧ G = true ∧ P3 = true ∧ P4 = false := by
    revert hno
    cases E <;> cases G <;> cases P3 <;> cases P4 <;> simp
  clear h1 h2 h3 h4 h5 h6 hw hv hno hP3 hP4 hne
  rcases hno2 with rfl | ⟨rfl, rfl⟩ | ⟨rfl, rfl, rfl⟩ | ⟨rfl, rfl, rfl, rfl⟩
  all_goals
    go_enter Tryd.func46, Tryd.ntmps46
    go_wp2_with (first | (go_at_call 44; refine (H1.out _).mono ?_; rintro e w2 ⟨rfl, rfl⟩) | (go_at_call 43; refine (H2.out _).mono ?_; rintro e w3 ⟨rfl, rfl⟩) | (go_at_call 34; refine H3.out.mono ?_; rintro e w4 ⟨rfl, hb4⟩) | (go_at_call 45; refine (HW.out _).mono ?_; rintro e w5 ⟨rfl, rfl⟩) | (go_at_call 66; refine (HV.out _).mono ?_; rintro e w6 ⟨rfl, rfl⟩))
    go_ret
    exact ⟨rfl, hb4⟩
end Go.Proofs.YtekcmgajjbdmgabDoor
