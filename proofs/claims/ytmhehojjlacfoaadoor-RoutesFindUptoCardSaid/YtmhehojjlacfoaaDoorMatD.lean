/- The contract of matcher.Holds. -/
import Derived.Test.YtmhehojjlacfoaaDoorMatC
import Derived.Test.YtmhehojjlacfoaaDoorLib3
namespace Go.Proofs.YtmhehojjlacfoaaDoor
open Go.RowKit Go.Maps

/-- the slice '.slice a ms.length c' reads as the matchers ms -/
def HasMats (w : World) (a : Option Addr) (c : Nat) (ms : List Mat) : Prop :=
  ms.length ≤ c ∧ c ≤ maxLen ∧
    (ms = [] ∨ ∃ b off, a = some ⟨b, off, none⟩ ∧ b < w.heap.size ∧ ∀ i (h : i < ms.length), ∃ x y,
      (w.cell? ⟨b, off + i * 3, none⟩ = some (.string ms[i].name) ∧ w.cell? ⟨b, off + i * 3 + 1, none⟩ = some (.int .i64 ms[i].how) ∧ w.cell? ⟨b, off + i * 3 + 2, none⟩ = some (.slice x ms[i].words.length y)) ∧
        HasStrs w x y ms[i].words ∧ ms[i].name.size ≤ maxLen ∧ (Lit.int .i64 ms[i].how).wf = true)
theorem HasMats.call {w w' : World} {a : Option Addr} {c : Nat} {ms : List Mat} (h : HasMats w a c ms) (hb : Below w.heap.size w w') : HasMats w' a c ms := by
  obtain ⟨h1, h2, h4⟩ := h
  refine ⟨h1, h2, ?_⟩
  rcases h4 with h4 | ⟨b, off, rfl, hlt, hc⟩
  · exact .inl h4
  · refine .inr ⟨b, off, rfl, Nat.lt_of_lt_of_le hlt hb.size, fun i hi => ?_⟩
    obtain ⟨x, y, ⟨g0, g1, g2⟩, g3, g4⟩ := hc i hi
    exact ⟨x, y, ⟨cellLater hb g0, cellLater hb g1, cellLater hb g2⟩, g3.call hb, g4⟩
theorem HasMats.nil (w : World) (a : Option Addr) (c : Nat) (hc : c ≤ maxLen) : HasMats w a c [] := ⟨Nat.zero_le _, hc, .inl rfl⟩

theorem all_end {α : Type} (p : α → Bool) (l : List α) : ∃ J, J ≤ l.length ∧ (∀ k (_h : k < J) (h2 : k < l.length), p l[k] = true) ∧ (J = l.length ∧ l.all p = true ∨ ∃ hj : J < l.length, p l[J] = false ∧ l.all p = false) := by
  cases h : l.all p with
  | true =>
    rw [List.all_eq_true] at h
    exact ⟨l.length, Nat.le_refl _, fun k _ h2 => h _ (List.getElem_mem h2), .inl ⟨rfl, rfl⟩⟩
  | false =>
    obtain ⟨j, hj, hb, ha⟩ := first_not (fun i => if hi : i < l.length then p l[i] else true) l.length (fun hall => by
      have : l.all p = true := by
        rw [List.all_eq_true]
        intro x hx
        obtain ⟨i, hi, rfl⟩ := List.getElem_of_mem hx
        have := hall i hi
        simpa [hi] using this
      rw [h] at this; cases this)
    refine ⟨j, by omega, fun k hk h2 => ?_, .inr ⟨hj, by simpa [hj] using hb, rfl⟩⟩
    have := ha k hk
    simpa [h2] using this

def holdsL (ls : List Lab) (ms : List Mat) : Bool × Int :=
  if rightC ls = true then (if ms.all rightM = true then (ms.all (fun m => holdsM (getL ls m.name) m), 0) else (false, 1)) else (false, 1)
def HoldsPost (ls : List Lab) (ms : List Mat) (w : World) (e : Ending) (w' : World) : Prop := e = .returned (.tuple #[.bool (holdsL ls ms).1, .int .i64 (holdsL ls ms).2]) ∧ Below w.heap.size w w'

theorem Tryd.infoF : (Tryd.prog.info? 39).map (fun i => (i.zero, i.size, i.bytes)) = some (some .nilFunc, 1, 8) := by kernel_rfl
theorem info_partsF {x : Option TypeInfo} (h : x.map (fun i => (i.zero, i.size, i.bytes)) = some (some .nilFunc, 1, 8)) : ∃ i, x = some i ∧ i.zero = some .nilFunc ∧ i.size = 1 ∧ i.bytes = 8 := by
  cases x with
  | none => cases h
  | some i => simp at h; exact ⟨i, rfl, h.1, h.2.1, h.2.2⟩

/-- v is the call's own slice of the values vs -/
def OwnF (w : World) (base : Nat) (v : Value) (vs : List Value) : Prop := w.ownsRow base 39 1 v vs.length vs
theorem OwnF.call {w w1 : World} {base : Nat} {v : Value} {vs : List Value} (h : OwnF w base v vs) (hb : Below w.heap.size w w1) : OwnF w1 base v vs :=
  World.ownsRow.kept h (row := none) ⟨hb.os, hb.tape, hb.output, hb.size, fun k hk _ => hb.block k hk⟩ (by cases v.ownBlock <;> simp)
theorem OwnF.alloc {w : World} {base : Nat} {v : Value} {vs : List Value} (h : OwnF w base v vs) (o : Obj) : OwnF (w.alloc o) base v vs := World.ownsRow.alloc h o
theorem OwnF.grown {w w1 : World} {base : Nat} {v : Value} {vs : List Value} (h : OwnF w base v vs) {w0 : World} (hb : Below base w0 w) (hz : base ≤ w.heap.size) (hg : w.grownBy w1 v.ownBlock) : Below base w0 w1 :=
  hb.grown hg hz (fun k hk => (World.ownsRow.lt h k hk).1)
theorem Blk.pushF {w w1 : World} {g base : Nat} {t : TypeId} {cs : Array Value} {v : Value} {vs : List Value} (h : Blk w g t cs) (hown : OwnF w base v vs) (hne : 39 ≠ t) (hg : w.grownBy w1 v.ownBlock) : Blk w1 g t cs := by
  refine h.push hg fun e1 => ?_
  rcases hown.2 with ⟨rfl, _⟩ | ⟨g1, cap, cur, rfl, _, hh, _⟩
  · cases e1
  · have e2 : g = g1 := by simpa [Value.ownBlock] using e1
    subst e2
    unfold Blk at h
    rw [h] at hh
    simp at hh
    exact hne hh.2.symm
theorem TestAt.pushF {w w1 : World} {base : Nat} {v u : Value} {vs : List Value} {a : Option Addr} {c : Nat} {m : Mat} (h : TestAt w u a c m) (hown : OwnF w base v vs) (hg : w.grownBy w1 v.ownBlock) : TestAt w1 u a c m := by
  obtain ⟨g1, g2, h1, h2, h3⟩ := h
  exact ⟨g1, g2, h1, h2.pushF hown (by decide) hg, h3.pushF hown (by decide) hg⟩

/-- the tests of the first k matchers -/
def TestsAt (w0 w : World) (vs : List Value) (ms : List Mat) (k : Nat) : Prop :=
  vs.length = k ∧ ∀ j (h : j < k) (h1 : j < vs.length) (h2 : j < ms.length), ∃ a c, TestAt w vs[j] a c ms[j] ∧ HasStrs w0 a c ms[j].words
theorem TestsAt.call {w0 w w1 : World} {vs : List Value} {ms : List Mat} {k : Nat} (h : TestsAt w0 w vs ms k) (hb : Below w.heap.size w w1) : TestsAt w0 w1 vs ms k :=
  ⟨h.1, fun j a b d => by obtain ⟨x, y, h1, h2⟩ := h.2 j a b d; exact ⟨x, y, h1.call hb, h2⟩⟩
theorem TestsAt.push {w0 w w1 : World} {vs : List Value} {ms : List Mat} {k base : Nat} {v u : Value} (h : TestsAt w0 w vs ms k) (hown : OwnF w base v vs) (hg : w.grownBy w1 v.ownBlock) (a : Option Addr) (c : Nat) (hk : k < ms.length) (hu : TestAt w u a c ms[k]) (hs : HasStrs w0 a c ms[k].words) :
    TestsAt w0 w1 (vs ++ [u]) ms (k + 1) := by
  refine ⟨by simp [h.1], fun j hj h1 h2 => ?_⟩
  by_cases e : j < k
  · have hv : j < vs.length := by rw [h.1]; exact e
    obtain ⟨x, y, g1, g2⟩ := h.2 j e hv h2
    rw [List.getElem_append_left hv]
    exact ⟨x, y, g1.pushF hown hg, g2⟩
  · obtain rfl : j = k := by omega
    have := h.1
    rw [List.getElem_append_right (by omega)]
    simp only [this, Nat.sub_self, List.getElem_cons_zero]
    exact ⟨a, c, hu.pushF hown hg, hs⟩
end Go.Proofs.YtmhehojjlacfoaaDoor
