/- Rows of labels in memory: what came in, and what the call has made. It speaks of no one program. -/
import Derived.Test.YtmhekhilgllciaaGreatLabM
import Derived.Test.YtmhekhilgllciaaGreatStrs
import Derived.Deep.SlicePairs
namespace Go.Proofs.YtmhekhilgllciaaGreat
open Go.RowKit Go.ChangeShapes Go.WideShapes Go.Deep

/-- the slice '.slice a ls.length c' reads as the labels ls -/
def HasLabs (w : World) (a : Option Addr) (c : Nat) (ls : List Lab) : Prop :=
  ls.length ≤ c ∧ c ≤ maxLen ∧ (∀ l ∈ ls, l.1.size ≤ maxLen ∧ l.2.size ≤ maxLen) ∧
    (ls = [] ∨ ∃ b off, a = some ⟨b, off, none⟩ ∧ b < w.heap.size ∧ ∀ i (h : i < ls.length), w.cell? ⟨b, off + i * 2, none⟩ = some (.string ls[i].1) ∧ w.cell? ⟨b, off + i * 2 + 1, none⟩ = some (.string ls[i].2))
theorem HasLabs.call {w w' : World} {a : Option Addr} {c : Nat} {ls : List Lab} (h : HasLabs w a c ls) (hb : Below w.heap.size w w') : HasLabs w' a c ls := by
  obtain ⟨h1, h2, h3, h4⟩ := h
  refine ⟨h1, h2, h3, ?_⟩
  rcases h4 with h4 | ⟨b, off, rfl, hlt, hc⟩
  · exact .inl h4
  · exact .inr ⟨b, off, rfl, Nat.lt_of_lt_of_le hlt hb.size, fun i hi => ⟨(hb.cell (p := ⟨b, off + i * 2, none⟩) hlt).trans (hc i hi).1, (hb.cell (p := ⟨b, off + i * 2 + 1, none⟩) hlt).trans (hc i hi).2⟩⟩
theorem HasLabs.drew {w : World} {a : Option Addr} {c : Nat} {ls : List Lab} (h : HasLabs w a c ls) : HasLabs w.drew a c ls := h
theorem HasLabs.nil (w : World) (a : Option Addr) (c : Nat) (hc : c ≤ maxLen) : HasLabs w a c [] := ⟨Nat.zero_le _, hc, (fun _ h => by cases h), .inl rfl⟩

/-- labels, as cells -/
def labsV (ls : List Lab) : List Value := ls.flatMap fun l => [.string l.1, .string l.2]
theorem labsV_len (ls : List Lab) : (labsV ls).length = ls.length * 2 := by
  induction ls with
  | nil => rfl
  | cons l ls ih =>
    have e : labsV (l :: ls) = .string l.1 :: .string l.2 :: labsV ls := rfl
    rw [e, List.length_cons, List.length_cons, ih, List.length_cons]; omega
theorem labsV_app (a b : List Lab) : labsV (a ++ b) = labsV a ++ labsV b := by simp [labsV]
theorem labsV_push (ls : List Lab) (l : Lab) : labsV ls ++ [.string l.1, .string l.2] = labsV (ls ++ [l]) := by simp [labsV]
theorem labsV_get : ∀ (ls : List Lab) (i : Nat) (h : i < ls.length), (labsV ls)[i * 2]? = some (.string ls[i].1) ∧ (labsV ls)[i * 2 + 1]? = some (.string ls[i].2)
  | l :: ls, 0, _ => ⟨rfl, rfl⟩
  | l :: ls, i + 1, h => by
    have e : labsV (l :: ls) = .string l.1 :: .string l.2 :: labsV ls := rfl
    have ih := labsV_get ls i (by simpa using h)
    rw [e, show (i + 1) * 2 = i * 2 + 1 + 1 by omega, List.getElem?_cons_succ, List.getElem?_cons_succ, List.getElem?_cons_succ, List.getElem?_cons_succ]
    exact ih
theorem labsV_one (ls : List Lab) : ∀ u ∈ labsV ls, u.oneCell' = true := by
  intro u hu
  obtain ⟨l, _, h⟩ := List.mem_flatMap.1 hu
  rcases List.mem_cons.1 h with rfl | h
  · rfl
  · rcases List.mem_cons.1 h with rfl | h
    · rfl
    · cases h

/-- a slice of labels of the call's own: its value, and that it reads as them -/
theorem labs_of_own {w : World} {base e : Nat} {v : Value} {ls : List Lab} (h : w.ownsRow base e 2 v ls.length (labsV ls)) (hs : ∀ l ∈ ls, l.1.size ≤ maxLen ∧ l.2.size ≤ maxLen) :
    ∃ a c, v = .slice a ls.length c ∧ HasLabs w a c ls := by
  rcases h.2 with ⟨rfl, h0⟩ | ⟨g, cap, cur, rfl, hb, hg, hn, hm, hcs, ht⟩
  · obtain rfl : ls = [] := List.eq_nil_of_length_eq_zero h0
    exact ⟨none, 0, rfl, HasLabs.nil _ _ _ (by unfold maxLen; omega)⟩
  · have hl : (labsV ls).length = ls.length * 2 := labsV_len ls
    refine ⟨some ⟨g, 0, none⟩, cap, rfl, hn, hm, hs, .inr ⟨g, 0, rfl, lt_of_block hg, fun i hi => ?_⟩⟩
    obtain ⟨g1, g2⟩ := labsV_get ls i hi
    refine ⟨?_, ?_⟩
    · rw [Nat.zero_add, h.cellAt (i * 2) (by omega), g1]
    · rw [Nat.zero_add, h.cellAt (i * 2 + 1) (by omega), g2]

theorem labArg_of {H : Type} {enc : TypeId × Value → H} {P : Program} {w : World} {base : Nat} {spare : Nat → Bool} {held : Bool} {t e s : TypeId} {a : Option Addr} {len cap : Nat} {d : DataW H} {ps : List MemPlace} {f0 f1 : Field}
    (ht : P.underlying t = some (.slice e)) (he : P.underlying e = some (.struct #[f0, f1])) (hs : P.underlying s = some .string) (ce : P.cellsOf e = 2)
    (o0 : f0.offset = 0) (o1 : f1.offset = 1) (c0 : P.cellsOf f0.type = 1) (c1 : P.cellsOf f1.type = 1) (t0 : f0.type = s) (t1 : f1.type = s)
    (h : DataW.Trod enc P w base spare held t (.slice a len cap) d ps) : ∃ ls : List Lab, ls.length = len ∧ HasLabs w a cap ls := by
  obtain ⟨fuel, hf⟩ := h
  rcases open_slice_pairs ht he ce o0 o1 c0 c1 hf with ⟨hcs, _⟩ | ⟨x, l, c, m, n, V0, V1, D0, D1, P0, P1, hcs, _, hl, hm, hmm, _, hc⟩
  · simp [Value.cells] at hcs
    obtain ⟨rfl, rfl, rfl⟩ := hcs
    exact ⟨[], rfl, HasLabs.nil _ _ _ (by unfold maxLen; omega)⟩
  · simp [Value.cells] at hcs
    obtain ⟨rfl, rfl, rfl⟩ := hcs
    have hlm : len ≤ m := by rw [hmm]; split <;> omega
    have str : ∀ i, i < m → ∃ p : Lab, V0 i = .string p.1 ∧ V1 i = .string p.2 ∧ p.1.size ≤ maxLen ∧ p.2.size ≤ maxLen := by
      intro i hi
      obtain ⟨_, _, g0, g1⟩ := hc i hi
      rw [t0] at g0
      rw [t1] at g1
      obtain ⟨s0, e0, _, z0⟩ := DataW.trod_string hs g0
      obtain ⟨s1, e1, _, z1⟩ := DataW.trod_string hs g1
      simp at e0 e1
      exact ⟨(s0, s1), e0, e1, z0, z1⟩
    obtain ⟨f, hfun⟩ := choose_lt str
    by_cases h0 : len = 0
    · subst h0; exact ⟨[], rfl, HasLabs.nil _ _ _ hm⟩
    · obtain ⟨b, off, spot⟩ := x
      have c00 := (hc 0 (by omega)).1
      have hspot : spot = none := by simpa [Addr.add] using World.cell?_spot c00
      subst hspot
      have eadd : ∀ k, (⟨b, off, none⟩ : Addr).add k = ⟨b, off + k, none⟩ := fun k => by unfold Addr.add; split <;> simp_all
      refine ⟨(List.range len).map f, by simp, by simpa using hl, hm, ?_, .inr ⟨b, off, rfl, ?_, ?_⟩⟩
      · intro p hp
        obtain ⟨i, hi, rfl⟩ := List.mem_map.1 hp
        have := List.mem_range.1 hi
        exact (hfun i (by omega)).2.2
      · have := World.block_lt_of_cell? w _ c00
        simpa [Addr.add] using this
      · intro i hi
        have hi' : i < len := by simpa using hi
        obtain ⟨g0, g1, _, _⟩ := hc i (by omega)
        obtain ⟨e0, e1, _⟩ := hfun i (by omega)
        rw [eadd] at g0 g1
        rw [← Nat.add_assoc] at g1
        rw [g0, g1, e0, e1]
        simp
end Go.Proofs.YtmhekhilgllciaaGreat
