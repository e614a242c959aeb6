/- A node that came in, by value. -/
import Derived.Test.YtolbhhokpelchaaDoorOutD
import Derived.Test.YtolbhhokpelchaaDoorInfo
import Derived.ProofKit
import Derived.OpenShut
import Derived.Lib.SmallJoins
import Derived.Deep.SlicePairs
import Derived.Deep.Strs
namespace Go.Proofs.YtolbhhokpelchaaDoor
open Go.RowKit Go.ChangeShapes Go.WideShapes Go.Deep Go.Joins

/-- the slice '.slice a xs.length c' reads as the nodes xs -/
def HasNds (w : World) (a : Option Addr) (c : Nat) (xs : List Nd) : Prop :=
  xs.length ≤ c ∧ c ≤ maxLen ∧ (xs = [] ∨ ∃ b off, a = some ⟨b, off, none⟩ ∧ b < w.heap.size ∧ ∀ i (h : i < xs.length), ∃ r : NdAt, r.n = xs[i] ∧ r.lies w b (off + i * 4) ∧ r.ok w)
theorem HasNds.nil (w : World) (a : Option Addr) (c : Nat) (hc : c ≤ maxLen) : HasNds w a c [] := ⟨Nat.zero_le _, hc, .inl rfl⟩
theorem NdAt.of_nds {w : World} {q : NdAt} (h1 : HasStrs w q.na q.nc q.n.names) (h2 : q.n.word.size ≤ maxLen) (h3 : (Lit.int .i64 q.n.kind).wf = true) (h4 : HasNds w q.ia q.ic q.n.items) : q.ok w := by
  obtain ⟨g1, g2, g3⟩ := h4
  rcases g3 with g3 | ⟨b, off, e, hb, hr⟩
  · exact .flat q ⟨h1, h2, h3, g1, g2⟩ g3
  · exact .of ⟨h1, h2, h3, g1, g2⟩ e hb hr
theorem NdAt.ok.nds {w : World} {q : NdAt} (h : q.ok w) : HasNds w q.ia q.ic q.n.items := ⟨h.head.2.2.2.1, h.head.2.2.2.2, h.place⟩

set_option maxRecDepth 100000 in
theorem cellsNode : Tryd.prog.cellsOf 25 = 4 := by kernel_rfl
set_option maxRecDepth 100000 in
theorem cellsStr : Tryd.prog.cellsOf 9 = 1 := by kernel_rfl
set_option maxRecDepth 100000 in
theorem cellsInt : Tryd.prog.cellsOf 3 = 1 := by kernel_rfl
set_option maxRecDepth 100000 in
theorem cellsStrs : Tryd.prog.cellsOf 22 = 1 := by kernel_rfl
set_option maxRecDepth 100000 in
theorem cellsNodes : Tryd.prog.cellsOf 23 = 1 := by kernel_rfl

set_option maxRecDepth 100000 in
theorem nds_of {H : Type} {enc : TypeId × Value → H} {w : World} {base : Nat} {spare : Nat → Bool} {held : Bool} (N : Nat) : ∀ (fuel : Nat) (a : Option Addr) (len cap : Nat) (y : DataW H × List MemPlace), SizeOf.sizeOf y.1 ≤ N →
    DataW.trod enc Tryd.prog w base spare held fuel 23 [.slice a len cap] = some y → ∃ xs : List Nd, xs.length = len ∧ HasNds w a cap xs := by
  induction N with
  | zero =>
    intro fuel a len cap y hN
    exfalso
    have : 0 < SizeOf.sizeOf y.1 := by cases y.1 <;> simp <;> omega
    omega
  | succ N ih =>
    intro fuel a len cap y hN hf
    rcases open_slice Tryd.underlying23 hf with ⟨hcs, _⟩ | ⟨x, l, c, m, n, D, Pl, hcs, _, hl, hm, hmm, hy, hx⟩
    · simp at hcs
      obtain ⟨rfl, rfl, rfl⟩ := hcs
      exact ⟨[], rfl, HasNds.nil _ _ _ (by unfold maxLen; omega)⟩
    · simp at hcs
      obtain ⟨rfl, rfl, rfl⟩ := hcs
      have hlm : len ≤ m := by rw [hmm]; split <;> omega
      have each : ∀ i, i < len → ∃ q : NdAt, (w.cell? (x.add (i * 4)) = some (.int .i64 q.n.kind) ∧ w.cell? (x.add (i * 4 + 1)) = some (.string q.n.word) ∧ w.cell? (x.add (i * 4 + 2)) = some (.slice q.na q.n.names.length q.nc) ∧ w.cell? (x.add (i * 4 + 3)) = some (.slice q.ia q.n.items.length q.ic)) ∧ q.ok w := by
        intro i hi
        have hsz : SizeOf.sizeOf (D i) < SizeOf.sizeOf y.1 := by
          rw [hy]
          simp only [DataW.slice.sizeOf_spec]
          have : SizeOf.sizeOf (D i) < SizeOf.sizeOf ((List.range len).map D) := List.sizeOf_lt_of_mem (List.mem_map.2 ⟨i, by simpa using hi, rfl⟩)
          omega
        obtain ⟨cs', h1, h2⟩ := hx i (by omega)
        rw [cellsNode] at h1
        obtain ⟨_, hlen, hcell⟩ := World.cells?_some h1
        obtain ⟨y0, y1, y2, y3, k, hD, _, g0, g1, g2, g3⟩ := trod_struct4 Tryd.underlying25 h2
        match cs', hlen with
        | [v0, v1, v2, v3], _ =>
          have e0 := hcell 0 (by omega)
          have e1 := hcell 1 (by omega)
          have e2 := hcell 2 (by omega)
          have e3 := hcell 3 (by omega)
          rw [add_add] at e0 e1 e2 e3
          simp [cellsInt, cellsStr, cellsStrs, cellsNodes] at g0 g1 g2 g3
          obtain ⟨z, q0, _, hz⟩ := DataW.trod_int Tryd.underlying3 g0
          obtain ⟨s, q1, _, hs⟩ := DataW.trod_string Tryd.underlying9 g1
          obtain ⟨a2, l2, c2, q2⟩ := slice_form Tryd.underlying22 g2
          obtain ⟨a3, l3, c3, q3⟩ := slice_form Tryd.underlying23 g3
          simp only [List.cons.injEq, and_true] at q0 q1 q2 q3
          subst q0 q1 q2 q3
          obtain ⟨ss, hsl, hss⟩ := strArg_of Tryd.underlying22 Tryd.underlying9 cellsStr (show DataW.Trod enc Tryd.prog w base spare held 22 (.slice a2 l2 c2) y2.1 y2.2 from ⟨_, g2⟩)
          have hsz3 : SizeOf.sizeOf y3.1 < SizeOf.sizeOf (D i) := by
            have hD1 : D i = .agg [y0.1, y1.1, y2.1, y3.1] := congrArg Prod.fst hD
            rw [hD1]
            simp only [DataW.agg.sizeOf_spec]
            have : SizeOf.sizeOf y3.1 < SizeOf.sizeOf [y0.1, y1.1, y2.1, y3.1] := List.sizeOf_lt_of_mem (by simp)
            omega
          obtain ⟨xs, hxl, hxs⟩ := ih _ a3 l3 c3 y3 (by omega) g3
          subst hsl hxl
          exact ⟨⟨.mk z s ss xs, a2, c2, a3, c3⟩, ⟨by simpa [Nd.kind] using e0, by simpa [Nd.word] using e1, by simpa [Nd.names] using e2, by simpa [Nd.items] using e3⟩, NdAt.of_nds hss hs hz hxs⟩
      obtain ⟨f, hfun⟩ := choose_lt each
      by_cases h0 : len = 0
      · subst h0; exact ⟨[], rfl, HasNds.nil _ _ _ hm⟩
      · obtain ⟨b, off, spot⟩ := x
        have c00 := (hfun 0 (by omega)).1.1
        have hspot : spot = none := by simpa [Addr.add] using World.cell?_spot c00
        subst hspot
        have eadd : ∀ k, (⟨b, off, none⟩ : Addr).add k = ⟨b, off + k, none⟩ := fun k => by unfold Addr.add; split <;> simp_all
        refine ⟨(List.range len).map fun i => (f i).n, by simp, by simpa using hl, hm, .inr ⟨b, off, rfl, ?_, fun i hi => ?_⟩⟩
        · have := World.block_lt_of_cell? w _ c00
          simpa [Addr.add] using this
        · have hi' : i < len := by simpa using hi
          obtain ⟨⟨e0, e1, e2, e3⟩, e4⟩ := hfun i hi'
          rw [eadd] at e0 e1 e2 e3
          rw [← Nat.add_assoc] at e1 e2 e3
          exact ⟨f i, by simp, ⟨e0, e1, e2, e3⟩, e4⟩
set_option maxRecDepth 100000 in
/-- a node that came in -/
theorem ndArg_of {H : Type} {enc : TypeId × Value → H} {W : World} {base b0 : Nat} {r : Reach} {spare : Nat → Bool} {held : Bool} {v : Value} {d : DataW H} {p : List MemPlace}
    (hv : Value.okWide Tryd.prog W r b0 25 v) (h : DataW.Trod enc Tryd.prog W base spare held 25 v d p) : ∃ q : NdAt, v = .agg (nCells q) ∧ q.ok W := by
  obtain ⟨v0, v1, v2, v3, y0, y1, y2, y3, n, rfl, _, _, h0, h1, h2, h3⟩ := open_agg4 Tryd.underlying25 (by kernel_rfl) cellsNode hv h
  obtain ⟨z, e0, _, hz⟩ := DataW.trod_int Tryd.underlying3 h0
  obtain ⟨s, e1, _, hs⟩ := DataW.trod_string Tryd.underlying9 h1
  obtain ⟨a2, l2, c2, e2⟩ := slice_form Tryd.underlying22 h2
  obtain ⟨a3, l3, c3, e3⟩ := slice_form Tryd.underlying23 h3
  simp only [List.cons.injEq, and_true] at e0 e1 e2 e3
  subst e0 e1 e2 e3
  obtain ⟨ss, hl, hss⟩ := strArg_of Tryd.underlying22 Tryd.underlying9 cellsStr (show DataW.Trod enc Tryd.prog W base spare held 22 (.slice a2 l2 c2) y2.1 y2.2 from ⟨n, h2⟩)
  obtain ⟨xs, hx, hxs⟩ := nds_of _ _ _ _ _ _ (Nat.le_refl _) h3
  subst hl hx
  exact ⟨⟨.mk z s ss xs, a2, c2, a3, c3⟩, rfl, NdAt.of_nds hss hs hz hxs⟩
end Go.Proofs.YtolbhhokpelchaaDoor
