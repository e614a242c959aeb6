/- The contract of 'alive' of the statements of layer 5. -/
import Derived.Test.YtolbhhokpelchaaDoorOtlK
namespace Go.Proofs.YtolbhhokpelchaaDoor
open Go.RowKit

def knownO : ByteArray := ⟨#[97, 58, 32, 49, 10, 98, 58, 10, 32, 32, 45, 32, 120, 10]⟩
def knownNd : Nd := .mk 3 ⟨#[]⟩ [⟨#[97]⟩, ⟨#[98]⟩] [.mk 1 ⟨#[49]⟩ [] [], .mk 2 ⟨#[]⟩ [] [.mk 1 ⟨#[120]⟩ [] []]]
theorem knownO_parse : parseN knownO.data.toList = (knownNd, 0, 0) := by kernel_rfl

set_option maxHeartbeats 1600000 in
set_option maxRecDepth 100000 in
theorem alive_any (w : World) (hm : MaxC w) : Calls Tryd.prog 10 #[] w (BoolW true w) := by
  have hp := oParse_any knownO w hm
  have hp2 : Calls Tryd.prog 17 #[.string ⟨#[97, 58, 32, 49, 10, 98, 58, 10, 32, 32, 45, 32, 120, 10]⟩] w fun e w' => Below w.heap.size w w' ∧ ∃ q : NdAt, q.n = knownNd ∧ q.ok w' ∧ e = .returned (.tuple #[.agg (nCells q), .int .i64 0, .int .i64 0]) := hp.mono (by
    rintro e w' ⟨hb, q, hq, hok, he⟩
    rw [knownO_parse] at hq he
    exact ⟨hb, q, hq, hok, he⟩)
  have HP := Lib.hid hp2
  clear hp hp2 hm
  go_enter Tryd.func10, Tryd.ntmps10
  go_wp2_with (go_at_call 17; refine HP.out.mono ?_; rintro e w2 ⟨hb2, ⟨n, na, nc, ia, ic⟩, hq, hok, rfl⟩; dsimp only at hq; subst hq; obtain ⟨b, off, hia, hlt, r, hr, hl, hrok⟩ : ∃ b off, ia = some ⟨b, off, none⟩ ∧ b < w2.heap.size ∧ ∃ r : NdAt, r.n = .mk 2 ⟨#[]⟩ [] [.mk 1 ⟨#[120]⟩ [] []] ∧ r.lies w2 b (off + 1 * 4) ∧ r.ok w2 := (by
    rcases hok.place with h | ⟨b, off, h1, h2, h3⟩
    · cases h
    · exact ⟨b, off, h1, h2, h3 1 (show 1 < 2 by decide)⟩); subst hia; obtain ⟨x0, x1, x2, x3⟩ := hl; have x0' : w2.cell? ⟨b, off + 4, none⟩ = some (.int .i64 2) := (by rw [x0, hr]; rfl))
  all_goals first
    | (go_ret; exact ⟨rfl, below_al hb2⟩)
    | (rename_i h; exact absurd rfl h)
end Go.Proofs.YtolbhhokpelchaaDoor
