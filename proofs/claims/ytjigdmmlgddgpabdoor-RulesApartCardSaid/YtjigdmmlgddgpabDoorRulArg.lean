/- A rule that came in, by value. -/
import Derived.Test.YtjigdmmlgddgpabDoorRulB
import Derived.Test.YtjigdmmlgddgpabDoorLabs
import Derived.ProofKit
import Derived.OpenShut
import Derived.Lib.SmallJoins
namespace Go.Proofs.YtjigdmmlgddgpabDoor
open Go.RowKit Go.ChangeShapes Go.WideShapes Go.Joins

theorem array8 {α : Type} {cs : Array α} (h : cs.size = 8) : ∃ c0 c1 c2 c3 c4 c5 c6 c7, cs = #[c0, c1, c2, c3, c4, c5, c6, c7] := by
  obtain ⟨l⟩ := cs
  match l, h with
  | [c0, c1, c2, c3, c4, c5, c6, c7], _ => exact ⟨c0, c1, c2, c3, c4, c5, c6, c7, rfl⟩
set_option maxRecDepth 100000 in
theorem cellsRule : Tryd.prog.cellsOf 24 = 8 := by kernel_rfl
set_option maxRecDepth 100000 in
theorem cellsStrR : Tryd.prog.cellsOf 9 = 1 := by kernel_rfl
set_option maxRecDepth 100000 in
theorem cellsIntR : Tryd.prog.cellsOf 3 = 1 := by kernel_rfl
set_option maxRecDepth 100000 in
theorem cellsLabsR : Tryd.prog.cellsOf 22 = 1 := by kernel_rfl
set_option maxRecDepth 100000 in
theorem rulArg_of {H : Type} {enc : TypeId × Value → H} {W : World} {base b0 : Nat} {r : Reach} {spare : Nat → Bool} {held : Bool} {v : Value} {d : DataW H} {p : List MemPlace}
    (hv : Value.okWide Tryd.prog W r b0 24 v) (h : DataW.Trod enc Tryd.prog W base spare held 24 v d p) : ∃ r a c, v = .agg (rCells r a c) ∧ RulAt W r a c := by
  obtain ⟨cs, rfl, hsz⟩ := okWide_struct Tryd.underlying24 hv
  obtain ⟨v0, v1, v2, v3, v4, v5, v6, v7, rfl⟩ := array8 (hsz.trans cellsRule)
  obtain ⟨fuel, hf⟩ := h
  obtain ⟨xs, n, _, _, hl, hlen, hf⟩ := DataW.trod_struct Tryd.underlying24 hf
  have g0 := hf 0 _ rfl
  have g1 := hf 1 _ rfl
  have g2 := hf 2 _ rfl
  have g3 := hf 3 _ rfl
  have g4 := hf 4 _ rfl
  have g5 := hf 5 _ rfl
  have g6 := hf 6 _ rfl
  have g7 := hf 7 _ rfl
  clear hf
  match xs, hlen with
  | [y0, y1, y2, y3, y4, y5, y6, y7], _ =>
    simp [Value.cells, cellsStrR, cellsIntR, cellsLabsR] at g0 g1 g2 g3 g4 g5 g6 g7
    obtain ⟨s, e0, _, hs⟩ := DataW.trod_string Tryd.underlying9 g0
    obtain ⟨m, e1, _, hm⟩ := DataW.trod_string Tryd.underlying9 g1
    obtain ⟨z2, e2, _, _⟩ := DataW.trod_int Tryd.underlying3 g2
    obtain ⟨z3, e3, _, _⟩ := DataW.trod_int Tryd.underlying3 g3
    obtain ⟨z4, e4, _, _⟩ := DataW.trod_int Tryd.underlying3 g4
    obtain ⟨z5, e5, _, _⟩ := DataW.trod_int Tryd.underlying3 g5
    obtain ⟨z6, e6, _, _⟩ := DataW.trod_int Tryd.underlying3 g6
    obtain ⟨a7, l7, c7, e7⟩ := slice_form Tryd.underlying22 g7
    simp only [List.cons.injEq, and_true] at e0 e1 e2 e3 e4 e5 e6 e7
    subst e0 e1 e2 e3 e4 e5 e6 e7
    obtain ⟨ls, hl2, hls⟩ := labArg_of Tryd.underlying22 Tryd.underlying48 Tryd.underlying9 (by kernel_rfl) rfl rfl (by kernel_rfl) (by kernel_rfl) rfl rfl (show DataW.Trod enc Tryd.prog W base spare held 22 (.slice a7 l7 c7) y7.1 y7.2 from ⟨n, g7⟩)
    subst hl2
    exact ⟨⟨s, m, z2, z3, z4, z5, z6, ls⟩, a7, c7, rfl, hls, hs, hm⟩
end Go.Proofs.YtjigdmmlgddgpabDoor
