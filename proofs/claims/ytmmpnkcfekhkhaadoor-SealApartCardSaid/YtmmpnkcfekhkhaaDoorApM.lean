/- Plain mathematics for SealApart: what is found within what is sealed. It speaks of no program. -/
import Derived.Test.YtmmpnkcfekhkhaaDoorSealM
import Derived.Lib.IndexMore
import Derived.Lib.Strings
namespace Go.Proofs.YtmmpnkcfekhkhaaDoor
open Go.RowKit

theorem contains_infix (a s b : List UInt8) : Lib.contains (a ++ s ++ b) s = true := by
  unfold Lib.contains
  rw [decide_eq_true_eq]
  rcases Lib.index_spec (a ++ s ++ b) s with ⟨_, h⟩ | ⟨i, h, _⟩
  · have := h a.length (by simp)
    rw [Lib.occAt, List.append_assoc, List.drop_left] at this
    rw [show s.isPrefixOf (s ++ b) = true from List.isPrefixOf_iff_prefix.2 (List.prefix_append s b)] at this
    cases this
  · rw [h]; omega
theorem close_has {L : List ByteArray} {x : ByteArray} (hm : mayC L = true) (hx : x ∈ L) : Lib.contains (closeS L).data.toList x.data.toList = true := by
  obtain ⟨A, B, rfl⟩ := List.append_of_mem hx
  have e : (closeS (A ++ x :: B)).data.toList = closeL (A ++ x :: B) := by rw [closeS_true hm]
  have e2 : closeL (A ++ x :: B) = (sealB ++ bindL (A.map frameS) ++ numB (frameS x).size ++ numB x.size) ++ x.data.toList ++ (numB (checkS x).size ++ (checkS x).data.toList ++ bindL (B.map frameS) ++ shaL (bodyL (A ++ x :: B))) := by
    have e3 : bodyL (A ++ x :: B) = sealB ++ (bindL (A.map frameS) ++ (numB (frameS x).size ++ (numB x.size ++ x.data.toList ++ (numB (checkS x).size ++ (checkS x).data.toList ++ [])) ++ bindL (B.map frameS))) := by
      rw [bodyL, List.map_append, List.map_cons]
      simp only [bindL, List.flatMap_append, List.flatMap_cons, frameS_list, List.flatMap_nil, List.append_nil, List.append_assoc]
    rw [closeL]
    generalize shaL (bodyL (A ++ x :: B)) = T
    rw [e3]
    simp only [List.append_assoc, List.append_nil]
  rw [e, e2]
  exact contains_infix _ _ _
theorem close_seal {L : List ByteArray} (hm : mayC L = true) : Lib.hasPrefix (closeS L).data.toList [115, 101, 97, 108] = true := by
  rw [closeS_true hm]
  rfl
theorem close_sum {L : List ByteArray} (hm : mayC L = true) (n : Nat) (hn : (closeS L).size = n + 32) :
    ((closeS L).extract 0 n).data.toList = bodyL L ∧ Lib.hasSuffix (closeS L).data.toList (shaL (bodyL L)) = true := by
  have e : (closeS L).data.toList = bodyL L ++ shaL (bodyL L) := by rw [closeS_true hm]; rfl
  have hl : n = (bodyL L).length := by
    have := congrArg List.length e
    rw [List.length_append, shaL_len, ← size_list] at this
    omega
  refine ⟨?_, ?_⟩
  · rw [extract_list, e, hl]; simp
  · rw [e]; exact List.isSuffixOf_iff_suffix.2 (List.suffix_append _ _)
end Go.Proofs.YtmmpnkcfekhkhaaDoor
