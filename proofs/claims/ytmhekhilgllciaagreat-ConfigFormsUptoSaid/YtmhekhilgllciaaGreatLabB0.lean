/- Names and values of labels, byte by byte. -/
import Derived.Test.YtmhekhilgllciaaGreatLabA
namespace Go.Proofs.YtmhekhilgllciaaGreat
open Go.RowKit


def okn (i : Nat) (c : UInt8) : Bool := letC c || c == 95 || (digC c && decide (0 < i))
theorem digC_iff (c : UInt8) : digC c = true ↔ 48 ≤ c.toNat ∧ c.toNat ≤ 57 := by simp [digC]
theorem letC_iff (c : UInt8) : letC c = true ↔ 97 ≤ c.toNat ∧ c.toNat ≤ 122 ∨ 65 ≤ c.toNat ∧ c.toNat ≤ 90 := by simp [letC]
theorem is95_iff (c : UInt8) : (c == 95) = true ↔ c.toNat = 95 := by
  rw [beq_iff_eq]
  exact ⟨fun h => by subst h; rfl, fun h => UInt8.toNat_inj.1 h⟩
theorem okn_iff (i : Nat) (c : UInt8) : okn i c = true ↔ (97 ≤ c.toNat ∧ c.toNat ≤ 122 ∨ 65 ≤ c.toNat ∧ c.toNat ≤ 90) ∨ c.toNat = 95 ∨ (48 ≤ c.toNat ∧ c.toNat ≤ 57) ∧ 0 < i := by
  simp only [okn, Bool.or_eq_true, letC_iff, is95_iff, Bool.and_eq_true, digC_iff, decide_eq_true_eq, or_assoc]
theorem wrdC_iff (c : UInt8) : wrdC c = true ↔ (97 ≤ c.toNat ∧ c.toNat ≤ 122 ∨ 65 ≤ c.toNat ∧ c.toNat ≤ 90) ∨ (48 ≤ c.toNat ∧ c.toNat ≤ 57) ∨ c.toNat = 95 := by
  simp only [wrdC, Bool.or_eq_true, letC_iff, is95_iff, digC_iff, or_assoc]
theorem nameC_iff (s : ByteArray) : nameC s.data.toList = true ↔ (1 ≤ s.size ∧ s.size ≤ 64) ∧ ∀ i (h : i < s.size), okn i s[i] = true := by
  have hl : s.data.toList.length = s.size := by simp
  constructor
  · intro h
    simp only [nameC, Bool.and_eq_true, decide_eq_true_eq, hl, Bool.not_eq_true'] at h
    obtain ⟨⟨⟨h1, h2⟩, h3⟩, h4⟩ := h
    rw [headD_at _ (by omega), byte_at s 0 (by omega)] at h3
    refine ⟨⟨h1, h2⟩, fun i hi => ?_⟩
    have hw := (wrdC_iff _).1 (wrd_at h4 i hi)
    rw [okn_iff]
    by_cases h0 : 0 < i
    · omega
    · obtain rfl : i = 0 := by omega
      have h3' : ¬ digC s[0] = true := by rw [h3]; simp
      rw [digC_iff] at h3'
      omega
  · rintro ⟨⟨h1, h2⟩, h⟩
    have h3 : digC s[0] = false := by
      rw [← Bool.not_eq_true, digC_iff]
      have := (okn_iff _ _).1 (h 0 (by omega))
      omega
    have h4 : s.data.toList.all wrdC = true := by
      rw [List.all_eq_true]
      intro x hx
      obtain ⟨i, hi, rfl⟩ := List.getElem_of_mem hx
      have hi' : i < s.size := by simpa using hi
      rw [byte_at s i hi', wrdC_iff]
      have := (okn_iff _ _).1 (h i hi')
      omega
    simp only [nameC, Bool.and_eq_true, decide_eq_true_eq, hl, Bool.not_eq_true']
    refine ⟨⟨⟨h1, h2⟩, ?_⟩, h4⟩
    rw [headD_at _ (by omega), byte_at s 0 (by omega)]
    exact h3
theorem idx_not (s : ByteArray) (p : Nat → UInt8 → Bool) (h : ¬ ∀ i (h : i < s.size), p i s[i] = true) : ∃ j, ∃ hj : j < s.size, p j s[j] = false ∧ ∀ k (_hk : k < j), p k (s[k]'(by omega)) = true := by
  obtain ⟨j, hj, hp, ha⟩ := first_not (fun i => if h : i < s.size then p i s[i] else true) s.size (fun hall => h (by
    intro i hi
    have := hall i hi
    simp only [hi, dite_true] at this
    exact this))
  refine ⟨j, hj, by simpa [hj] using hp, fun k hk => ?_⟩
  have := ha k hk
  simpa [show k < s.size by omega] using this

theorem lessB_drop : ∀ (k : Nat) (a b : List UInt8), k ≤ a.length → k ≤ b.length → a.take k = b.take k → lessB a b = lessB (a.drop k) (b.drop k)
  | 0, _, _, _, _, _ => rfl
  | k + 1, a :: x, b :: y, ha, hb, h => by
    simp only [List.take_succ_cons, List.cons.injEq] at h
    obtain ⟨rfl, h⟩ := h
    rw [List.drop_succ_cons, List.drop_succ_cons, ← lessB_drop k x y (by simpa using ha) (by simpa using hb) h]
    simp [lessB]
theorem drop_byte (s : ByteArray) (k : Nat) (h : k < s.size) : s.data.toList.drop k = s[k] :: s.data.toList.drop (k + 1) := by
  rw [List.drop_eq_getElem_cons (by simpa using h)]; rfl
theorem take_byte (s : ByteArray) (k : Nat) (h : k < s.size) : s.data.toList.take (k + 1) = s.data.toList.take k ++ [s[k]] := by
  rw [List.take_succ_eq_append_getElem (by simpa using h)]; rfl

def Bool2 (B : Bool) (w : World) (e : Ending) (w' : World) : Prop := e = .returned (.bool B) ∧ ∃ n, w' = w.drewN n

theorem drew_any {w w' : World} (h : ∃ n, w' = w.drewN n) : ∃ n, w' = w.drewN n := h
theorem bool2_mk {B C : Bool} {w w' : World} (h : B = C) (hw : ∃ n, w' = w.drewN n) : Bool2 B w (.returned (.bool C)) w' := ⟨by rw [h], hw⟩
end Go.Proofs.YtmhekhilgllciaaGreat
