/- The contract of label.Get. -/
import Derived.Test.YtmhehojjlacfoaaDoorLabC
namespace Go.Proofs.YtmhehojjlacfoaaDoor
open Go.RowKit
open Go.WideShapes (bytes_inj)

set_option maxHeartbeats 1600000 in
theorem get_any (a : Option Addr) (c : Nat) (ls : List Lab) (s : ByteArray) (w : World) (h : HasLabs w a c ls) :
    Calls Tryd.prog 58 #[.slice a ls.length c, .string s] w (StrB (getL ls s) w) := by
  have hs := fun W (hW : HasLabs W a c ls) => seek_any a c ls s W hW
  have HS := Lib.hid hs
  have HL := Lib.hid h
  have h2 := h.2.1
  have h1 := h.1
  unfold maxLen at h2
  clear hs h
  go_enter Tryd.func58, Tryd.ntmps58
  go_upto_region 2 with (go_at_call 73; refine (HS.out _ HL.out).mono ?_; rintro e w2 ⟨n, rfl, hb2, hn⟩)
  rcases hn with ⟨j, hj, rfl, hq, hg⟩ | ⟨rfl, hq, hg⟩
  · have hL2 := HL.out.call hb2
    obtain ⟨_, _, h3, h4⟩ := hL2
    rcases h4 with rfl | ⟨b, off, rfl, hb, hcell⟩
    · cases hj
    · have hc1 := (hcell j hj).2
      have HG := Lib.hid hg
      clear hcell hg hq h3
      go_wp2
      go_ret
      exact ⟨by rw [HG.out]; rfl, hb2⟩
  · have HG := Lib.hid hg
    clear hg hq
    go_wp2
    go_ret
    exact ⟨by rw [HG.out]; rfl, hb2⟩

end Go.Proofs.YtmhehojjlacfoaaDoor
