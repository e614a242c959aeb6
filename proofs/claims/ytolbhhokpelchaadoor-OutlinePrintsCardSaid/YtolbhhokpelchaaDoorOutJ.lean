/- The contract of outline.flat. -/
import Derived.Test.YtolbhhokpelchaaDoorOutH
import Derived.Test.YtolbhhokpelchaaDoorOutC
namespace Go.Proofs.YtolbhhokpelchaaDoor
open Go.RowKit

/-- how a word is written; how a node of no items is -/
def wordT (s : ByteArray) : ByteArray := if plC s.data.toList then s else quoteS s
def flatT (n : Nd) : ByteArray := if n.kind = 2 then ⟨#[91, 93]⟩ else if n.kind = 3 then ⟨#[123, 125]⟩ else wordT n.word

set_option maxHeartbeats 1600000 in
set_option maxRecDepth 100000 in
theorem flat_any (q : NdAt) (w : World) (hs : q.n.word.size ≤ 1000000) : Calls Tryd.prog 70 #[.agg (nCells q)] w (StrB (flatT q.n) w) := by
  obtain ⟨⟨k, wd, ns, xs⟩, na, nc, ia, ic⟩ := q
  simp only [Nd.kind, Nd.word, Nd.names, Nd.items, nCells] at hs ⊢
  have hb := (Below.refl w.heap.size w).alloc (Nat.le_refl _) (.cells #[.int .i64 k, .string wd, .slice na ns.length nc, .slice ia xs.length ic] 25)
  have hB := Blk.new w 25 #[.int .i64 k, .string wd, .slice na ns.length nc, .slice ia xs.length ic]
  have hp := fun W => oPlain_any wd W (by unfold maxLen; omega)
  have hq := fun W => quoted_any wd W hs
  have hF : flatT (.mk k wd ns xs) = if k = 2 then ⟨#[91, 93]⟩ else if k = 3 then ⟨#[123, 125]⟩ else (if plC wd.data.toList then wd else quoteS wd) := rfl
  obtain ⟨T, hT⟩ : ∃ T, flatT (.mk k wd ns xs) = T := ⟨_, rfl⟩
  obtain ⟨P, hP⟩ : ∃ P, plC wd.data.toList = P := ⟨_, rfl⟩
  rw [hT] at hF ⊢
  rw [hP] at hp hF
  have HT := Lib.hid hF
  have HP := Lib.hid hp
  have HQ := Lib.hid hq
  have HB := Lib.hid hb
  clear hF hP hT hp hq hb
  go_enter Tryd.func70, Tryd.ntmps70
  go_upto_region 1 with fail
  generalize w.alloc (.cells #[.int .i64 k, .string wd, .slice na ns.length nc, .slice ia xs.length ic] 25) = wx at *
  obtain ⟨c0, c1, c2, c3⟩ := hB.cells4
  by_cases k2 : k = 2
  · subst k2
    obtain rfl : T = ⟨#[91, 93]⟩ := by rw [HT.out, if_pos rfl]
    go_wp2_with fail
    go_ret
    exact ⟨rfl, HB.out⟩
  have d2 : (k == 2) = false := beq_eq_false_iff_ne.2 k2
  by_cases k3 : k = 3
  · subst k3
    obtain rfl : T = ⟨#[123, 125]⟩ := by rw [HT.out, if_neg k2, if_pos rfl]
    go_wp2_with fail
    go_ret
    exact ⟨rfl, HB.out⟩
  have d3 : (k == 3) = false := beq_eq_false_iff_ne.2 k3
  have HT2 : Hid (T = if P then wd else quoteS wd) := Lib.hid (by rw [HT.out, if_neg k2, if_neg k3])
  clear k2 k3 HT
  cases P with
  | true =>
    obtain rfl : T = wd := by rw [HT2.out, if_pos rfl]
    go_wp2_with (go_at_call 92; refine (HP.out _).mono ?_; rintro e w2 ⟨rfl, rfl⟩)
    go_ret
    exact ⟨rfl, HB.out⟩
  | false =>
    obtain rfl : T = quoteS wd := by rw [HT2.out, if_neg Bool.false_ne_true]
    go_wp2_with (first
      | (go_at_call 92; refine (HP.out _).mono ?_; rintro e w2 ⟨rfl, rfl⟩)
      | (go_at_call 93; refine (HQ.out _).mono ?_; rintro e w3 ⟨rfl, hb3⟩))
    go_ret
    exact ⟨rfl, bthen HB.out hb3⟩
end Go.Proofs.YtolbhhokpelchaaDoor
