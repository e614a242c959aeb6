/- Slices of texts, in memory: what is known of one that came in, or that the call has made. It speaks of no one program. -/
import Derived.Test.YtmhekhilgllciaaGreatAppend
import Derived.SliceStrings
import Derived.ProofKit
namespace Go.Proofs.YtmhekhilgllciaaGreat
open Go.RowKit Go.ChangeShapes Go.WideShapes

/-- the slice '.slice a ss.length c' reads as the texts ss -/
def HasStrs (w : World) (a : Option Addr) (c : Nat) (ss : List ByteArray) : Prop :=
  ss.length ≤ c ∧ c ≤ maxLen ∧ (∀ s ∈ ss, s.size ≤ maxLen) ∧
    (ss = [] ∨ ∃ b off, a = some ⟨b, off, none⟩ ∧ b < w.heap.size ∧ ∀ i (h : i < ss.length), w.cell? ⟨b, off + i, none⟩ = some (.string ss[i]))
theorem HasStrs.call {w w' : World} {a : Option Addr} {c : Nat} {ss : List ByteArray} (h : HasStrs w a c ss) (hb : Below w.heap.size w w') : HasStrs w' a c ss := by
  obtain ⟨h1, h2, h3, h4⟩ := h
  refine ⟨h1, h2, h3, ?_⟩
  rcases h4 with h4 | ⟨b, off, rfl, hlt, hc⟩
  · exact .inl h4
  · exact .inr ⟨b, off, rfl, Nat.lt_of_lt_of_le hlt hb.size, fun i hi => (hb.cell (p := ⟨b, off + i, none⟩) hlt).trans (hc i hi)⟩
theorem HasStrs.drew {w : World} {a : Option Addr} {c : Nat} {ss : List ByteArray} (h : HasStrs w a c ss) : HasStrs w.drew a c ss := h
theorem HasStrs.nil (w : World) (a : Option Addr) (c : Nat) (hc : c ≤ maxLen) : HasStrs w a c [] := ⟨Nat.zero_le _, hc, (fun _ h => by cases h), .inl rfl⟩

/-- texts, as cells -/
def strsV (ss : List ByteArray) : List Value := ss.map .string
theorem strsV_len (ss : List ByteArray) : (strsV ss).length = ss.length := by simp [strsV]
theorem strsV_push (ss : List ByteArray) (s : ByteArray) : strsV ss ++ [.string s] = strsV (ss ++ [s]) := by simp [strsV]

/-- a slice of texts of the call's own: its value, and that it reads as them -/
theorem strs_of_own {w : World} {base e : Nat} {v : Value} {ss : List ByteArray} (h : w.ownsRow base e 1 v ss.length (strsV ss)) (hs : ∀ s ∈ ss, s.size ≤ maxLen) :
    ∃ a c, v = .slice a ss.length c ∧ HasStrs w a c ss := by
  rcases h.2 with ⟨rfl, h0⟩ | ⟨g, cap, cur, rfl, hb, hg, hn, hm, hcs, ht⟩
  · obtain rfl : ss = [] := List.eq_nil_of_length_eq_zero h0
    exact ⟨none, 0, rfl, HasStrs.nil _ _ _ (by unfold maxLen; omega)⟩
  · refine ⟨some ⟨g, 0, none⟩, cap, rfl, hn, hm, hs, .inr ⟨g, 0, rfl, lt_of_block hg, fun i hi => ?_⟩⟩
    rw [Nat.zero_add, h.cellAt i (by omega)]
    simp [strsV, hi]

theorem strArg_of {H : Type} {enc : TypeId × Value → H} {P : Program} {w : World} {base : Nat} {spare : Nat → Bool} {held : Bool} {t e : TypeId} {a : Option Addr} {len cap : Nat} {d : DataW H} {ps : List MemPlace}
    (ht : P.underlying t = some (.slice e)) (he : P.underlying e = some .string) (hc : P.cellsOf e = 1)
    (h : DataW.Trod enc P w base spare held t (.slice a len cap) d ps) : ∃ ss : List ByteArray, ss.length = len ∧ HasStrs w a cap ss := by
  obtain ⟨fuel, hf⟩ := h
  rcases open_strings ht he hc hf with ⟨hcs, _⟩ | ⟨x, l, c, ss, hcs, _, hl, hm, hz, _, hcell, hwz⟩
  · simp [Value.cells] at hcs
    obtain ⟨rfl, rfl, rfl⟩ := hcs
    exact ⟨[], rfl, HasStrs.nil _ _ _ (by unfold maxLen; omega)⟩
  · simp [Value.cells] at hcs
    obtain ⟨rfl, rfl, rfl⟩ := hcs
    have hlen : len ≤ ss.length := by rw [hz]; split <;> omega
    refine ⟨ss.take len, by simp; omega, by simp; omega, hm, fun s hs => hwz s (List.mem_of_mem_take hs), ?_⟩
    by_cases h0 : len = 0
    · subst h0; exact .inl (by simp)
    · have c0 := hcell 0 (by omega)
      obtain ⟨b, off, spot⟩ := x
      have hspot : spot = none := by simpa [Addr.add] using World.cell?_spot c0
      subst hspot
      refine .inr ⟨b, off, rfl, ?_, fun i hi => ?_⟩
      · have := World.block_lt_of_cell? w _ c0
        simpa [Addr.add] using this
      · have hi' : i < len := by simp at hi; omega
        have e0 : (⟨b, off, none⟩ : Addr).add i = ⟨b, off + i, none⟩ := by unfold Addr.add; split <;> simp_all
        have ci := hcell i (by omega)
        rw [e0] at ci
        rw [ci]
        simp [List.getD, show i < ss.length by omega]

end Go.Proofs.YtmhekhilgllciaaGreat
