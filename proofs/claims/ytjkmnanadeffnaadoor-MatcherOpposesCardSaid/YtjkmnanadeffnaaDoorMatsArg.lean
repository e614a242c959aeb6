/- A slice of matchers that came in. -/
import Derived.Test.YtjkmnanadeffnaaDoorFrameM
import Derived.Test.YtjkmnanadeffnaaDoorMatD
import Derived.Deep.SlicePairs
import Derived.Deep.Strs
namespace Go.Proofs.YtjkmnanadeffnaaDoor
open Go.RowKit Go.ChangeShapes Go.WideShapes Go.Deep Go.Joins

set_option maxRecDepth 100000 in
theorem matsArg_of {H : Type} {enc : TypeId × Value → H} {w : World} {base : Nat} {spare : Nat → Bool} {held : Bool} {a : Option Addr} {len cap : Nat} {d : DataW H} {ps : List MemPlace}
    (h : DataW.Trod enc Tryd.prog w base spare held 45 (.slice a len cap) d ps) : ∃ ms : List Mat, ms.length = len ∧ HasMats w a cap ms := by
  obtain ⟨fuel, hf⟩ := h
  rcases open_slice Tryd.underlying45 hf with ⟨hcs, _⟩ | ⟨x, l, c, m, n, D, Pl, hcs, _, hl, hm, hmm, _, hx⟩
  · simp [Value.cells] at hcs
    obtain ⟨rfl, rfl, rfl⟩ := hcs
    exact ⟨[], rfl, HasMats.nil _ _ _ (by unfold maxLen; omega)⟩
  · simp [Value.cells] at hcs
    obtain ⟨rfl, rfl, rfl⟩ := hcs
    have hlm : len ≤ m := by rw [hmm]; split <;> omega
    have each : ∀ i, i < m → ∃ q : Mat × Option Addr × Nat, (w.cell? (x.add (i * 3)) = some (.string q.1.name) ∧ w.cell? (x.add (i * 3 + 1)) = some (.int .i64 q.1.how) ∧ w.cell? (x.add (i * 3 + 2)) = some (.slice q.2.1 q.1.words.length q.2.2)) ∧
        HasStrs w q.2.1 q.2.2 q.1.words ∧ q.1.name.size ≤ maxLen ∧ (Lit.int .i64 q.1.how).wf = true := by
      intro i hi
      obtain ⟨cs', h1, h2⟩ := hx i hi
      rw [cellsMat] at h1
      obtain ⟨_, hlen, hcell⟩ := World.cells?_some h1
      obtain ⟨y0, y1, y2, k, _, _, g0, g1, g2⟩ := trod_struct3 Tryd.underlying25 h2
      match cs', hlen with
      | [v0, v1, v2], _ =>
        have e0 := hcell 0 (by omega)
        have e1 := hcell 1 (by omega)
        have e2 := hcell 2 (by omega)
        rw [add_add] at e0 e1 e2
        have c1 : Tryd.prog.cellsOf 9 = 1 := by kernel_rfl
        have c2 : Tryd.prog.cellsOf 3 = 1 := by kernel_rfl
        have c3 : Tryd.prog.cellsOf 23 = 1 := by kernel_rfl
        simp [c1, c2, c3] at g0 g1 g2
        obtain ⟨s, q0, _, hs⟩ := DataW.trod_string Tryd.underlying9 g0
        obtain ⟨z, q1, _, hz⟩ := DataW.trod_int Tryd.underlying3 g1
        obtain ⟨a', l', c', q2⟩ := slice_form Tryd.underlying23 g2
        simp only [List.cons.injEq, and_true] at q0 q1 q2
        subst q0 q1 q2
        obtain ⟨ss, hsl, hss⟩ := strArg_of Tryd.underlying23 Tryd.underlying9 (by kernel_rfl) (show DataW.Trod enc Tryd.prog w base spare held 23 (.slice a' l' c') y2.1 y2.2 from ⟨_, g2⟩)
        subst hsl
        exact ⟨(⟨s, z, ss⟩, a', c'), ⟨by simpa using e0, by simpa using e1, by simpa using e2⟩, hss, hs, hz⟩
    haveI : Inhabited (Mat × Option Addr × Nat) := ⟨(⟨.empty, 0, []⟩, none, 0)⟩
    obtain ⟨f, hfun⟩ := choose_lt each
    by_cases h0 : len = 0
    · subst h0; exact ⟨[], rfl, HasMats.nil _ _ _ hm⟩
    · obtain ⟨b, off, spot⟩ := x
      have c00 := (hfun 0 (by omega)).1.1
      have hspot : spot = none := by simpa [Addr.add] using World.cell?_spot c00
      subst hspot
      have eadd : ∀ k, (⟨b, off, none⟩ : Addr).add k = ⟨b, off + k, none⟩ := fun k => by unfold Addr.add; split <;> simp_all
      refine ⟨(List.range len).map fun i => (f i).1, by simp, by simpa using hl, hm, .inr ⟨b, off, rfl, ?_, fun i hi => ?_⟩⟩
      · have := World.block_lt_of_cell? w _ c00
        simpa [Addr.add] using this
      · have hi' : i < len := by simpa using hi
        obtain ⟨⟨e0, e1, e2⟩, e3, e4, e5⟩ := hfun i (by omega)
        rw [eadd] at e0 e1 e2
        rw [← Nat.add_assoc] at e1 e2
        refine ⟨(f i).2.1, (f i).2.2, ⟨?_, ?_, ?_⟩, ?_, ?_, ?_⟩
        · rw [e0]; simp
        · rw [e1]; simp
        · rw [e2]; simp
        · simpa using e3
        · simpa using e4
        · simpa using e5
end Go.Proofs.YtjkmnanadeffnaaDoor
