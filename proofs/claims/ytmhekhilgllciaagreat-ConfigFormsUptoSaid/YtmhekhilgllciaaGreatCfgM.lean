/- Texts sorted, each once: mathematics. It speaks of no program. -/
import Derived.Test.YtmhekhilgllciaaGreatLabM
import Derived.Lib.SlicesCompact
namespace Go.Proofs.YtmhekhilgllciaaGreat
open Go.Lib

def leB (x y : Bs) : Bool := !lessB y x
def srtB (ss : List Bs) : List Bs := ss.mergeSort leB
theorem leB_trans (a b c : Bs) (h : leB a b = true) (g : leB b c = true) : leB a c = true := by
  simp only [leB, Bool.not_eq_true'] at *
  cases e : lessB c a with
  | false => rfl
  | true =>
    cases e2 : lessB b c with
    | true =>
      rw [lessB_trans _ _ _ e2 e] at h
      cases h
    | false =>
      have h2 := lessB_tri _ _ e2 g
      rw [← h2] at e
      rw [e] at h
      cases h
theorem leB_total (a b : Bs) : (leB a b || leB b a) = true := by
  simp only [leB]
  cases e : lessB b a with
  | false => rfl
  | true => rw [lessB_asymm e]; rfl
theorem srtB_perm (ss : List Bs) : (srtB ss).Perm ss := List.mergeSort_perm _ _
theorem srtB_sorted (ss : List Bs) : (srtB ss).Pairwise (fun a b => leB a b = true) := List.pairwise_mergeSort leB_trans leB_total ss
/-- is no text there twice? -/
def onceB (ss : List Bs) : Bool := decide ((compact (srtB ss)).length = ss.length)
theorem keeps_succ (zs : List Bs) (j : Nat) (h : j + 1 < zs.length) : keeps zs.toArray (j + 1) = decide (zs[j + 1] ≠ zs[j]) := by
  unfold keeps
  have e1 : zs.toArray[j + 1]! = zs[j + 1] := by simp [h]
  have e2 : zs.toArray[j + 1 - 1]! = zs[j] := by simp [show j < zs.length by omega]
  rw [e1, e2]
  simp
theorem compact_len (zs : List Bs) : (compact zs).length = zs.length ↔ ∀ j (h : j + 1 < zs.length), zs[j + 1] ≠ zs[j] := by
  unfold compact compactUpTo
  rw [List.length_map]
  constructor
  · intro h j hj
    have h2 : ∀ k ∈ List.range zs.length, keeps zs.toArray k = true := by
      rw [← List.filter_eq_self]
      exact List.Sublist.eq_of_length List.filter_sublist (by rw [h, List.length_range])
    have := h2 (j + 1) (List.mem_range.2 hj)
    rw [keeps_succ _ _ hj] at this
    exact of_decide_eq_true this
  · intro h
    have h2 : (List.range zs.length).filter (keeps zs.toArray) = List.range zs.length := by
      rw [List.filter_eq_self]
      intro k hk
      cases k with
      | zero => simp [keeps]
      | succ k =>
        rw [keeps_succ _ _ (List.mem_range.1 hk)]
        exact decide_eq_true (h k (List.mem_range.1 hk))
    rw [h2, List.length_range]
theorem onceB_iff (ss : List Bs) : onceB ss = true ↔ ss.Nodup := by
  unfold onceB
  have hp := srtB_perm ss
  have hs := srtB_sorted ss
  rw [decide_eq_true_iff, ← hp.length_eq, compact_len, ← hp.nodup_iff]
  generalize srtB ss = zs at *
  constructor
  · intro h
    unfold List.Nodup
    refine List.pairwise_iff_getElem.2 fun i j hi hj hij e => ?_
    rw [List.pairwise_iff_getElem] at hs
    have h1 := h i (by omega)
    rcases Nat.lt_or_ge (i + 1) j with hlt | hge
    · have a1 := hs i (i + 1) hi (by omega) (by omega)
      have a2 := hs (i + 1) j (by omega) hj hlt
      rw [← e] at a2
      simp only [leB, Bool.not_eq_true'] at a1 a2
      exact h1 (lessB_tri _ _ a1 a2)
    · obtain rfl : j = i + 1 := by omega
      exact h1 e.symm
  · intro h j hj e
    unfold List.Nodup at h
    rw [List.pairwise_iff_getElem] at h
    exact h j (j + 1) (by omega) hj (by omega) e.symm
end Go.Proofs.YtmhekhilgllciaaGreat
