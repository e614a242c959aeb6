/- A slice of blocks that came in. -/
import Derived.Test.YthodifgohdaedabDoorBlkD
import Derived.ProofKit
import Derived.OpenShut
import Derived.Lib.SmallJoins
import Derived.Deep.SlicePairs
import Derived.Deep.Strs
namespace Go.Proofs.YthodifgohdaedabDoor
open Go.RowKit Go.ChangeShapes Go.WideShapes Go.Deep Go.Joins

set_option maxRecDepth 100000 in
theorem cellsDef : Tryd.prog.cellsOf 44 = 3 := by kernel_rfl
set_option maxRecDepth 100000 in
theorem defsArg_of {H : Type} {enc : TypeId × Value → H} {w : World} {base : Nat} {spare : Nat → Bool} {held : Bool} {a : Option Addr} {len cap : Nat} {d : DataW H} {ps : List MemPlace}
    (h : DataW.Trod enc Tryd.prog w base spare held 22 (.slice a len cap) d ps) : ∃ ds : List Dfn, ds.length = len ∧ HasDefs w a cap ds := by
  obtain ⟨fuel, hf⟩ := h
  rcases open_slice Tryd.underlying22 hf with ⟨hcs, _⟩ | ⟨x, l, c, m, n, D, Pl, hcs, _, hl, hm, hmm, _, hx⟩
  · simp [Value.cells] at hcs
    obtain ⟨rfl, rfl, rfl⟩ := hcs
    exact ⟨[], rfl, HasDefs.nil _ _ _ (by unfold maxLen; omega)⟩
  · simp [Value.cells] at hcs
    obtain ⟨rfl, rfl, rfl⟩ := hcs
    have hlm : len ≤ m := by rw [hmm]; split <;> omega
    have each : ∀ i, i < m → ∃ q : DefAt, (w.cell? (x.add (i * 3)) = some (.string q.d.kind) ∧ w.cell? (x.add (i * 3 + 1)) = some (.slice q.ka q.d.keys.length q.kc) ∧ w.cell? (x.add (i * 3 + 2)) = some (.slice q.va q.d.vals.length q.vc)) ∧ q.ok w := by
      intro i hi
      obtain ⟨cs', h1, h2⟩ := hx i hi
      rw [cellsDef] at h1
      obtain ⟨_, hlen, hcell⟩ := World.cells?_some h1
      obtain ⟨y0, y1, y2, k, _, _, g0, g1, g2⟩ := trod_struct3 Tryd.underlying44 h2
      match cs', hlen with
      | [v0, v1, v2], _ =>
        have e0 := hcell 0 (by omega)
        have e1 := hcell 1 (by omega)
        have e2 := hcell 2 (by omega)
        rw [add_add] at e0 e1 e2
        have c1 : Tryd.prog.cellsOf 9 = 1 := by kernel_rfl
        have c3 : Tryd.prog.cellsOf 36 = 1 := by kernel_rfl
        simp [c1, c3] at g0 g1 g2
        obtain ⟨s, q0, _, hs⟩ := DataW.trod_string Tryd.underlying9 g0
        obtain ⟨a1, l1, c1', q1⟩ := slice_form Tryd.underlying36 g1
        obtain ⟨a2, l2, c2', q2⟩ := slice_form Tryd.underlying36 g2
        simp only [List.cons.injEq, and_true] at q0 q1 q2
        subst q0 q1 q2
        obtain ⟨ss, hsl, hss⟩ := strArg_of Tryd.underlying36 Tryd.underlying9 (by kernel_rfl) (show DataW.Trod enc Tryd.prog w base spare held 36 (.slice a1 l1 c1') y1.1 y1.2 from ⟨_, g1⟩)
        obtain ⟨vs, hvl, hvs⟩ := strArg_of Tryd.underlying36 Tryd.underlying9 (by kernel_rfl) (show DataW.Trod enc Tryd.prog w base spare held 36 (.slice a2 l2 c2') y2.1 y2.2 from ⟨_, g2⟩)
        subst hsl hvl
        exact ⟨⟨⟨s, ss, vs⟩, a1, c1', a2, c2'⟩, ⟨by simpa using e0, by simpa using e1, by simpa using e2⟩, hss, hvs, hs⟩
    haveI : Inhabited DefAt := ⟨⟨⟨.empty, [], []⟩, none, 0, none, 0⟩⟩
    obtain ⟨f, hfun⟩ := choose_lt each
    by_cases h0 : len = 0
    · subst h0; exact ⟨[], rfl, HasDefs.nil _ _ _ hm⟩
    · obtain ⟨b, off, spot⟩ := x
      have c00 := (hfun 0 (by omega)).1.1
      have hspot : spot = none := by simpa [Addr.add] using World.cell?_spot c00
      subst hspot
      have eadd : ∀ k, (⟨b, off, none⟩ : Addr).add k = ⟨b, off + k, none⟩ := fun k => by unfold Addr.add; split <;> simp_all
      refine ⟨(List.range len).map fun i => (f i).d, by simp, by simpa using hl, hm, .inr ⟨b, off, rfl, ?_, fun i hi => ?_⟩⟩
      · have := World.block_lt_of_cell? w _ c00
        simpa [Addr.add] using this
      · have hi' : i < len := by simpa using hi
        obtain ⟨⟨e0, e1, e2⟩, e3⟩ := hfun i (by omega)
        rw [eadd] at e0 e1 e2
        rw [← Nat.add_assoc] at e1 e2
        exact ⟨f i, by simp, ⟨e0, e1, e2⟩, e3⟩
end Go.Proofs.YthodifgohdaedabDoor
