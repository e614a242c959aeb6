/- Blocks of which some are the call's own: where their rows lie, and what is kept. -/
import Derived.Test.YtekcmgajjbdmgabDoorBlkE
import Derived.RegionTactic
import Derived.BigRegion
import Derived.Deep.RegionLaw
import Derived.Deep.CutBlock
import Derived.Deep.RegionWith
import Derived.Outline
namespace Go.Proofs.YtekcmgajjbdmgabDoor
open Go.RowKit

def cutD (d : Dfn) : Dfn := ⟨cutN 70 d.kind, (d.keys.take 66).map (cutN 70), (d.vals.take 66).map (cutN 205)⟩
def fewD (ds : List Dfn) : List Dfn := (ds.take 66).map cutD

/-- the texts' block is a row of texts -/
def InTx (w : World) (a : Option Addr) : Prop := ∀ b o s, a = some ⟨b, o, s⟩ → ∃ cs fr, w.heap[b]? = some (.cells cs 9 fr)
theorem InTx.call {w w1 : World} {a : Option Addr} (h : InTx w a) (hb : Below w.heap.size w w1) : InTx w1 a := fun b o s e => by
  obtain ⟨cs, fr, hc⟩ := h b o s e
  exact ⟨cs, fr, (hb.block b (lt_of_block hc)).trans hc⟩
/-- all blocks below B but g are as they were -/
def AllBut (B g : Nat) (w w' : World) : Prop := w.heap.size ≤ w'.heap.size ∧ ∀ k, k < B → k ≠ g → w'.heap[k]? = w.heap[k]?
theorem AllBut.refl (B g : Nat) (w : World) : AllBut B g w w := ⟨Nat.le_refl _, fun _ _ _ => rfl⟩
theorem AllBut.grown {B g base : Nat} {w w1 w2 : World} {v : Value} (h : AllBut B g w w1) (hB : B ≤ base) (hv : ∀ k, v.ownBlock = some k → base ≤ k) (hz : B ≤ w1.heap.size) (hg : w1.grownBy w2 v.ownBlock) : AllBut B g w w2 :=
  ⟨Nat.le_trans h.1 hg.size, fun k hk hne => (hg.block k (by omega) (fun e => by have := hv k e.symm; omega)).trans (h.2 k hk hne)⟩
theorem AllBut.set {B g : Nat} {w w1 : World} (h : AllBut B g w w1) (i : Nat) (u : Value) : AllBut B g w (w1.setCell ⟨g, i, none⟩ u) :=
  ⟨by simpa [World.setCell] using h.1, fun k hk hne => (Below.heap_setCell w1 ⟨g, i, none⟩ u k hne).trans (h.2 k hk hne)⟩
theorem AllBut.blk {B g b : Nat} {w w1 : World} {t : TypeId} {cs : Array Value} (h : AllBut B g w w1) (hb : Blk w b t cs) (hlt : b < B) (hne : b ≠ g) : Blk w1 b t cs := (h.2 b hlt hne).trans hb
theorem AllBut.strs {B g : Nat} {w w1 : World} {a : Option Addr} {c : Nat} {ss : List ByteArray} (h : AllBut B g w w1) (hs : HasStrs w a c ss) (hp : ∀ b o s, a = some ⟨b, o, s⟩ → b < B ∧ b ≠ g) : HasStrs w1 a c ss := by
  obtain ⟨h1, h2, h3, h4⟩ := hs
  refine ⟨h1, h2, h3, ?_⟩
  rcases h4 with h4 | ⟨b, off, rfl, hlt, hc⟩
  · exact .inl h4
  · obtain ⟨p1, p2⟩ := hp b off none rfl
    refine .inr ⟨b, off, rfl, Nat.lt_of_lt_of_le hlt h.1, fun i hi => ?_⟩
    have := hc i hi
    unfold World.cell? at this ⊢
    rw [h.2 b p1 p2]
    exact this
theorem AllBut.tx {B g : Nat} {w w1 : World} {a : Option Addr} (h : AllBut B g w w1) (hs : InTx w a) (hp : ∀ b o s, a = some ⟨b, o, s⟩ → b < B ∧ b ≠ g) : InTx w1 a := fun b o s e => by
  obtain ⟨cs, fr, hc⟩ := hs b o s e
  obtain ⟨p1, p2⟩ := hp b o s e
  exact ⟨cs, fr, (h.2 b p1 p2).trans hc⟩
theorem inTx_own {w : World} {base n c : Nat} {a : Option Addr} {ss : List ByteArray} (h : OwnS 9 w base (.slice a n c) ss) : InTx w a ∧ ∀ b o s, a = some ⟨b, o, s⟩ → base ≤ b ∧ b < w.heap.size := by
  have h' : w.ownsRow base 9 1 (.slice a n c) ss.length (strsV ss) := h
  constructor
  · intro b o s e
    subst e
    rcases h'.2 with ⟨e2, _⟩ | ⟨g, cap, cur, e2, hb2, hg2, _⟩
    · cases e2
    · simp only [Value.slice.injEq, Option.some.injEq, Addr.mk.injEq] at e2
      obtain ⟨⟨rfl, _, _⟩, _, _⟩ := e2
      exact ⟨cur, (0, 0), hg2⟩
  · intro b o s e
    subst e
    rcases h'.2 with ⟨e2, _⟩ | ⟨g, cap, cur, e2, hb2, hg2, _⟩
    · cases e2
    · simp only [Value.slice.injEq, Option.some.injEq, Addr.mk.injEq] at e2
      obtain ⟨⟨rfl, _, _⟩, _, _⟩ := e2
      exact ⟨hb2, lt_of_block hg2⟩
/-- an append to a row of blocks leaves a row of texts alone -/
theorem InTx.grown {w w1 : World} {base : Nat} {v : Value} {qs : List DefAt} {a : Option Addr} (h : InTx w a) (hown : OwnD 61 w base v qs) (hg : w.grownBy w1 v.ownBlock) : ∀ b o s, a = some ⟨b, o, s⟩ → w1.heap[b]? = w.heap[b]? := fun b o s e => by
  obtain ⟨cs, fr, hc⟩ := h b o s e
  refine hg.block b (lt_of_block hc) (fun e2 => ?_)
  have hown' : w.ownsRow base 61 3 v qs.length (defsV qs) := hown
  rcases hown'.2 with ⟨rfl, _⟩ | ⟨g, cap, cur, rfl, hb2, hg2, _⟩
  · simp [Value.ownBlock] at e2
  · simp [Value.ownBlock] at e2
    subst e2
    rw [hc] at hg2
    simp at hg2
theorem strs_kept {w w1 : World} {a : Option Addr} {c : Nat} {ss : List ByteArray} (hs : HasStrs w a c ss) (hz : w.heap.size ≤ w1.heap.size) (hp : ∀ b o s, a = some ⟨b, o, s⟩ → w1.heap[b]? = w.heap[b]?) : HasStrs w1 a c ss := by
  obtain ⟨h1, h2, h3, h4⟩ := hs
  refine ⟨h1, h2, h3, ?_⟩
  rcases h4 with h4 | ⟨b, off, rfl, hlt, hc⟩
  · exact .inl h4
  · refine .inr ⟨b, off, rfl, Nat.lt_of_lt_of_le hlt hz, fun i hi => ?_⟩
    have := hc i hi
    unfold World.cell? at this ⊢
    rw [hp b off none rfl]
    exact this
theorem tx_kept {w w1 : World} {a : Option Addr} (hs : InTx w a) (hp : ∀ b o s, a = some ⟨b, o, s⟩ → w1.heap[b]? = w.heap[b]?) : InTx w1 a := fun b o s e => by
  obtain ⟨cs, fr, hc⟩ := hs b o s e
  exact ⟨cs, fr, (hp b o s e).trans hc⟩
/-- a block of texts that lie in rows of texts -/
def DefAt.okT (w : World) (q : DefAt) : Prop := q.ok w ∧ InTx w q.ka ∧ InTx w q.va
theorem DefAt.okT.call {w w1 : World} {q : DefAt} (h : q.okT w) (hb : Below w.heap.size w w1) : q.okT w1 := ⟨h.1.call hb, h.2.1.call hb, h.2.2.call hb⟩
theorem DefAt.okT.grown {w w1 : World} {base : Nat} {v : Value} {qs : List DefAt} {q : DefAt} (h : q.okT w) (hown : OwnD 61 w base v qs) (hg : w.grownBy w1 v.ownBlock) : q.okT w1 := by
  obtain ⟨⟨h1, h2, h3⟩, t1, t2⟩ := h
  exact ⟨⟨strs_kept h1 hg.size (t1.grown hown hg), strs_kept h2 hg.size (t2.grown hown hg), h3⟩, tx_kept t1 (t1.grown hown hg), tx_kept t2 (t2.grown hown hg)⟩

def FewP (ds : List Dfn) (w : World) (e : Ending) (w' : World) : Prop := ∃ a c, e = .returned (.slice a ds.length c) ∧ HasDefs w' a c ds ∧ Below w.heap.size w w'
end Go.Proofs.YtekcmgajjbdmgabDoor
