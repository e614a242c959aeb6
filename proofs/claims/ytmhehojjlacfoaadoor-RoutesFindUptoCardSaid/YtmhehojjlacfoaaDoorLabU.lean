/- The contracts of the document's own Get of layer 3, and of the library's Contains of texts. -/
import Derived.Test.YtmhehojjlacfoaaDoorLabU0
import Derived.Test.YtmhehojjlacfoaaDoorLabR
namespace Go.Proofs.YtmhehojjlacfoaaDoor
open Go.RowKit

set_option maxHeartbeats 1600000 in
theorem rGet_any (a : Option Addr) (c : Nat) (ls : List Lab) (s : ByteArray) (w : World) (h : HasLabs w a c ls) :
    Calls Tryd.prog 67 #[.slice a ls.length c, .string s] w (StrB (getL ls s) w) := by
  have h2 := h.2.1
  have h1 := h.1
  have HL := Lib.hid h
  unfold maxLen at h2
  clear h
  obtain ⟨J, hJ, hok, hend⟩ : ∃ J, J ≤ ls.length ∧ (∀ k (_h : k < J) (_h2 : k < ls.length), (ls[k].1.toList == s.toList) = false) ∧ (J = ls.length ∧ getL ls s = ⟨#[]⟩ ∨ ∃ hj : J < ls.length, (ls[J].1.toList == s.toList) = true ∧ getL ls s = ls[J].2) := by
    rcases get_cases ls s with ⟨j, hj, g1, g2, g3⟩ | ⟨g1, g2⟩
    · exact ⟨j, by omega, fun k hk _ => by rw [toList_eq_iff]; exact decide_eq_false (g2 k hk), .inr ⟨hj, by rw [toList_eq_iff]; exact decide_eq_true g1, g3⟩⟩
    · exact ⟨ls.length, Nat.le_refl _, fun k hk h => by rw [toList_eq_iff]; exact decide_eq_false (g1 k h), .inl ⟨rfl, g2⟩⟩
  have HOK := Lib.hid hok
  have HE := Lib.hid hend
  clear hok hend
  go_enter Tryd.func67, Tryd.ntmps67
  go_wp2
  go_loopw [9] (fun i wr => ∃ k : Nat, k ≤ J ∧ i = .int .i64 k ∧ Below w.heap.size w wr) (fun i _ => ls.length - (intOf i).toNat)
  case atStart => exact ⟨0, Nat.zero_le _, rfl, Below.refl _ _⟩
  case round =>
    obtain ⟨k, hk, rfl, hbl⟩ := hrel
    by_cases hkl : k < ls.length
    · obtain ⟨b, off, rfl, hbb, hcell⟩ := (HL.out.call hbl).some k hkl
      obtain ⟨hc1, hc2⟩ := hcell k hkl
      clear hcell
      by_cases hkJ : k = J
      · rcases HE.out with ⟨he, _⟩ | ⟨hj, hq, hg⟩
        · omega
        · subst hkJ
          have HG := Lib.hid hg
          clear hg
          go_wp2
          go_ret
          exact ⟨by rw [HG.out]; rfl, hbl.alloc hbl.size _⟩
      · have hq := HOK.out k (by omega) hkl
        go_wp2
        go_roundw
        case rel => exact ⟨k + 1, by omega, by go_num, hbl.alloc hbl.size _⟩
        case measure => simp [intOf]; omega
    · rcases HE.out with ⟨he, hg⟩ | ⟨hj, _⟩
      · have HG := Lib.hid hg
        clear hg he
        go_wp2
        go_ret
        exact ⟨by rw [HG.out]; rfl, hbl⟩
      · omega
end Go.Proofs.YtmhehojjlacfoaaDoor
