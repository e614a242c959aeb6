/- LabelReads: for every text: it is read as just that set, or refused, as the document's own program says. -/
import Derived.Test.YtlejejmcicecgaaLabOR
import Derived.Test.YtlejejmcicecgaaLabPP
namespace Go.Proofs.Ytlejejmcicecgaa
open Go.RowKit

set_option maxHeartbeats 3200000 in
set_option maxRecDepth 100000 in
theorem labelReads_walk (a0 : ByteArray) (w0 : a0.size ≤ maxLen) (w : World) (hM : MaxC w) :
    Calls Try.prog 4 #[.string a0] w fun e w' => e = .returned (.bool true) ∧ Below w.heap.size w w' := by
  unfold maxLen at w0
  go_enter Try.func4, Try.ntmps4
  go_upto_region 1 with fail
  go_cut [0] (fun s wx => ∃ s1, s = .string s1 ∧ s1.size ≤ 1500 ∧ Below w.heap.size w wx)
  case first =>
    go_wp2_with fail
    go_meet
    exact ⟨_, rfl, by simp; omega, by first | exact Below.refl _ _ | exact (Below.refl _ _).drew⟩
  case rest =>
    obtain ⟨s, rfl, hs, hb⟩ := hcut
    have hmx := hM.call hb
    have hp := fun V (h : MaxC V) => parse_any s V h (by omega)
    have hr := fun V => rParse_any s V (by omega)
    unfold parseP at hp
    unfold refP at hr
    clear w0 hM
    cases hq : parseL s.data.toList with
    | none =>
      rw [hq] at hp hr
      have HP := Lib.hid hp
      have HR := Lib.hid hr
      clear hp hr hq
      go_wp2_with (first
        | (go_at_call 21; (with_reducible refine (HP.out _ hmx).mono ?_); rintro e w1 ⟨x, y, rfl, hX, hb1⟩)
        | (go_at_call 22; (with_reducible refine (HR.out _).mono ?_); rintro e w2 ⟨x2, y2, rfl, hY, hb2⟩)
        | (go_at_call 19; (with_reducible refine (alive_any _).mono ?_); rintro e w3 ⟨rfl, hb3⟩))
      go_ret
      exact ⟨rfl, bthen (bthen (bthen hb hb1) hb2) hb3⟩
    | some X =>
      rw [hq] at hp hr
      have hsa := fun a b c d V (h : HasLabs V a b X) (h' : HasLabs V c d X) => rSame_any a c b d X X V h h'
      rw [decide_eq_true rfl] at hsa
      have HP := Lib.hid hp
      have HR := Lib.hid hr
      have HS := Lib.hid hsa
      clear hp hr hq hsa
      go_wp2_with (first
        | (go_at_call 21; (with_reducible refine (HP.out _ hmx).mono ?_); rintro e w1 ⟨x, y, rfl, hX, hb1⟩)
        | (go_at_call 22; (with_reducible refine (HR.out _).mono ?_); rintro e w2 ⟨x2, y2, rfl, hY, hb2⟩; have hX2 := hX.call hb2)
        | (go_at_call 19; (with_reducible refine (alive_any _).mono ?_); rintro e w3 ⟨rfl, hb3⟩; have hX3 := hX2.call hb3; have hY3 := hY.call hb3)
        | (go_at_call 16; (with_reducible refine (HS.out _ _ _ _ _ hX3 hY3).mono ?_); rintro e w4 ⟨rfl, hb4⟩))
      go_ret
      exact ⟨rfl, bthen (bthen (bthen (bthen hb hb1) hb2) hb3) hb4⟩
end Go.Proofs.Ytlejejmcicecgaa
