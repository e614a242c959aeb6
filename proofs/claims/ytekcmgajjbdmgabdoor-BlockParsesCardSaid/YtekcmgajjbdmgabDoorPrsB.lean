/- The reader of blocks in memory, and the contracts of block.outside. -/
import Derived.Test.YtekcmgajjbdmgabDoorPrsA
import Derived.Test.YtekcmgajjbdmgabDoorBlkQ
import Derived.Test.YtekcmgajjbdmgabDoorMaxC
import Derived.Maps.AppendAt
namespace Go.Proofs.YtekcmgajjbdmgabDoor
open Go.RowKit

theorem OwnS.base {T : TypeId} {w : World} {b b' : Nat} {v : Value} {l : List ByteArray} (h : OwnS T w b v l) (hb : b' ≤ b) : OwnS T w b' v l := by
  obtain ⟨h1, h2⟩ := h
  refine ⟨h1, ?_⟩
  rcases h2 with h2 | ⟨g, cap, cur, hv, hg, r⟩
  · exact .inl h2
  · exact .inr ⟨g, cap, cur, hv, Nat.le_trans hb hg, r⟩
theorem OwnS.kept {T : TypeId} {w w1 : World} {base : Nat} {v u : Value} {ss : List ByteArray} (h : OwnS T w base v ss) (hg : w.grownBy w1 u.ownBlock) (hne : v.ownBlock = none ∨ v.ownBlock ≠ u.ownBlock) : OwnS T w1 base v ss :=
  World.ownsRow.kept h hg hne

theorem drop_last {α : Type} : ∀ (l : List α) (z : α), l.getLast? = some z → l = l.dropLast ++ [z]
  | [], _, h => by cases h
  | [a], z, h => by simp at h; simp [h]
  | a :: b :: l, z, h => by
    have := drop_last (b :: l) z (by simpa using h)
    rw [List.dropLast_cons_cons, List.cons_append, ← this]
/-- a block whose keys and values are still appended to: they lie in rows of the call's own, from block lo on, apart from one another -/
def OpenAt (w : World) (lo : Nat) (q : DefAt) : Prop :=
  OwnS 9 w lo (.slice q.ka q.d.keys.length q.kc) q.d.keys ∧ OwnS 9 w lo (.slice q.va q.d.vals.length q.vc) q.d.vals ∧
    ((Value.slice q.ka q.d.keys.length q.kc).ownBlock = none ∨ (Value.slice q.ka q.d.keys.length q.kc).ownBlock ≠ (Value.slice q.va q.d.vals.length q.vc).ownBlock) ∧
    (∀ s ∈ q.d.keys, s.size ≤ maxLen) ∧ (∀ s ∈ q.d.vals, s.size ≤ maxLen) ∧ q.d.kind.size ≤ maxLen
theorem OpenAt.call {w w1 : World} {lo : Nat} {q : DefAt} (h : OpenAt w lo q) (hb : Below w.heap.size w w1) : OpenAt w1 lo q := ⟨h.1.call hb, h.2.1.call hb, h.2.2⟩
theorem OpenAt.okT {w : World} {lo : Nat} {q : DefAt} (h : OpenAt w lo q) : q.okT w ∧ (∀ b o s, q.ka = some ⟨b, o, s⟩ → lo ≤ b ∧ b < w.heap.size) ∧ ∀ b o s, q.va = some ⟨b, o, s⟩ → lo ≤ b ∧ b < w.heap.size := by
  obtain ⟨h1, h2, _, h4, h5, h6⟩ := h
  obtain ⟨a, c, e, hh⟩ := h1.strs h4
  obtain ⟨a', c', e', hh'⟩ := h2.strs h5
  simp only [Value.slice.injEq] at e e'
  obtain ⟨rfl, _, rfl⟩ := e
  obtain ⟨rfl, _, rfl⟩ := e'
  obtain ⟨t1, p1⟩ := inTx_own h1
  obtain ⟨t2, p2⟩ := inTx_own h2
  exact ⟨⟨⟨hh, hh', h6⟩, t1, t2⟩, p1, p2⟩
/-- a block that is done: its texts lie below block lo -/
def DoneAt (w : World) (lo : Nat) (q : DefAt) : Prop := q.okT w ∧ (∀ b o s, q.ka = some ⟨b, o, s⟩ → b < lo) ∧ ∀ b o s, q.va = some ⟨b, o, s⟩ → b < lo
theorem DoneAt.call {w w1 : World} {lo : Nat} {q : DefAt} (h : DoneAt w lo q) (hb : Below w.heap.size w w1) : DoneAt w1 lo q := ⟨h.1.call hb, h.2⟩
theorem DoneAt.mono {w : World} {lo lo' : Nat} {q : DefAt} (h : DoneAt w lo q) (hl : lo ≤ lo') : DoneAt w lo' q :=
  ⟨h.1, fun b o s e => Nat.lt_of_lt_of_le (h.2.1 b o s e) hl, fun b o s e => Nat.lt_of_lt_of_le (h.2.2 b o s e) hl⟩
theorem OpenAt.done {w : World} {lo : Nat} {q : DefAt} (h : OpenAt w lo q) : DoneAt w w.heap.size q :=
  ⟨h.okT.1, fun b o s e => (h.okT.2.1 b o s e).2, fun b o s e => (h.okT.2.2 b o s e).2⟩

/-- the rows of a reader: all blocks but the last one are done, that one may be appended to -/
def RowsAt (w : World) (lo : Nat) (qs : List DefAt) : Prop := (∀ q ∈ qs.dropLast, DoneAt w lo q) ∧ ∀ q, qs.getLast? = some q → OpenAt w lo q
theorem RowsAt.call {w w1 : World} {lo : Nat} {qs : List DefAt} (h : RowsAt w lo qs) (hb : Below w.heap.size w w1) : RowsAt w1 lo qs := ⟨fun q hq => (h.1 q hq).call hb, fun q hq => (h.2 q hq).call hb⟩
theorem RowsAt.all {w : World} {lo : Nat} {qs : List DefAt} (h : RowsAt w lo qs) (hlo : lo ≤ w.heap.size) : ∀ q ∈ qs, DoneAt w w.heap.size q := by
  intro q hq
  cases hl : qs.getLast? with
  | none => rw [List.getLast?_eq_none_iff] at hl; subst hl; cases hq
  | some z =>
    rw [drop_last qs z hl, List.mem_append, List.mem_singleton] at hq
    rcases hq with hq | rfl
    · exact (h.1 q hq).mono hlo
    · exact (h.2 q hl).done
theorem RowsAt.nil (w : World) (lo : Nat) : RowsAt w lo [] := ⟨(fun q hq => by cases hq), (fun q hq => by cases hq)⟩

theorem tx_ne {w : World} {a : Option Addr} {g : Nat} {t : TypeId} {cs : Array Value} (h : InTx w a) (hb : Blk w g t cs) (hne : t ≠ 9) : ∀ b o s, a = some ⟨b, o, s⟩ → b ≠ g := fun b o s e => by
  obtain ⟨cs', fr, hc⟩ := h b o s e
  rintro rfl
  unfold Blk at hb
  rw [hb] at hc
  simp at hc
  exact hne hc.2.1
/-- a store into a block that is no row of texts -/
theorem DefAt.okT.setB {w : World} {g : Nat} {t : TypeId} {cs : Array Value} {q : DefAt} (h : q.okT w) (hb : Blk w g t cs) (hne : t ≠ 9) (i : Nat) (u : Value) : q.okT (w.setCell ⟨g, i, none⟩ u) := by
  obtain ⟨⟨h1, h2, h3⟩, t1, t2⟩ := h
  have k1 : ∀ b o s, q.ka = some ⟨b, o, s⟩ → (w.setCell ⟨g, i, none⟩ u).heap[b]? = w.heap[b]? := fun b o s e => Below.heap_setCell w ⟨g, i, none⟩ u b (tx_ne t1 hb hne b o s e)
  have k2 : ∀ b o s, q.va = some ⟨b, o, s⟩ → (w.setCell ⟨g, i, none⟩ u).heap[b]? = w.heap[b]? := fun b o s e => Below.heap_setCell w ⟨g, i, none⟩ u b (tx_ne t2 hb hne b o s e)
  have hz : w.heap.size ≤ (w.setCell ⟨g, i, none⟩ u).heap.size := by simp [World.setCell]
  exact ⟨⟨strs_kept h1 hz k1, strs_kept h2 hz k2, h3⟩, tx_kept t1 k1, tx_kept t2 k2⟩
theorem OpenAt.setO {w : World} {lo g : Nat} {q : DefAt} (h : OpenAt w lo q) (hg : g < lo) (i : Nat) (u : Value) : OpenAt (w.setCell ⟨g, i, none⟩ u) lo q := ⟨h.1.setCell hg i u, h.2.1.setCell hg i u, h.2.2⟩
theorem RowsAt.setB {w : World} {lo g : Nat} {t : TypeId} {cs : Array Value} {qs : List DefAt} (h : RowsAt w lo qs) (hb : Blk w g t cs) (hne : t ≠ 9) (hg : g < lo) (i : Nat) (u : Value) : RowsAt (w.setCell ⟨g, i, none⟩ u) lo qs :=
  ⟨fun q hq => ⟨(h.1 q hq).1.setB hb hne i u, (h.1 q hq).2⟩, fun q hq => (h.2 q hq).setO hg i u⟩
/-- all blocks below B but rb are as they were -/
def Fr (rb B : Nat) (w w' : World) : Prop := w'.os = w.os ∧ w'.tape = w.tape ∧ w'.output = w.output ∧ w.heap.size ≤ w'.heap.size ∧ ∀ k, k < B → k ≠ rb → w'.heap[k]? = w.heap[k]?
theorem Fr.refl (rb B : Nat) (w : World) : Fr rb B w w := ⟨rfl, rfl, rfl, Nat.le_refl _, fun _ _ _ => rfl⟩
theorem Fr.trans {rb B : Nat} {w w1 w2 : World} (h : Fr rb B w w1) (k : Fr rb B w1 w2) : Fr rb B w w2 :=
  ⟨k.1.trans h.1, k.2.1.trans h.2.1, k.2.2.1.trans h.2.2.1, Nat.le_trans h.2.2.2.1 k.2.2.2.1, fun i hi hne => (k.2.2.2.2 i hi hne).trans (h.2.2.2.2 i hi hne)⟩
theorem Fr.of {rb B : Nat} {w w' : World} (hb : Below w.heap.size w w') (hB : B ≤ w.heap.size) : Fr rb B w w' := ⟨hb.os, hb.tape, hb.output, hb.size, fun k hk _ => hb.block k (by omega)⟩
theorem Fr.grown {rb B : Nat} {w w' : World} {r : Option Nat} (hg : w.grownBy w' r) (hB : B ≤ w.heap.size) (hr : ∀ k, r = some k → B ≤ k) : Fr rb B w w' :=
  ⟨hg.os, hg.tape, hg.output, hg.size, fun k hk _ => hg.block k (by omega) (fun e => by have := hr k e.symm; omega)⟩
theorem Fr.set {rb B : Nat} {w w' : World} (h : Fr rb B w w') (i : Nat) (u : Value) : Fr rb B w (w'.setCell ⟨rb, i, none⟩ u) :=
  ⟨h.1, h.2.1, h.2.2.1, by simpa [World.setCell] using h.2.2.2.1, fun k hk hne => (Below.heap_setCell w' ⟨rb, i, none⟩ u k hne).trans (h.2.2.2.2 k hk hne)⟩
theorem Fr.below {rb B C : Nat} {w w' : World} (h : Fr rb B w w') (hC : C ≤ rb) (hB : C ≤ B) : Below C w w' := ⟨h.1, h.2.1, h.2.2.1, h.2.2.2.1, fun k hk => h.2.2.2.2 k (by omega) (by omega)⟩
theorem Fr.strs {rb B b off c : Nat} {w w' : World} {ss : List ByteArray} (h : Fr rb B w w') (hs : HasStrs w (some ⟨b, off, none⟩) c ss) (hb : b < B) (hne : b ≠ rb) : HasStrs w' (some ⟨b, off, none⟩) c ss :=
  strs_kept hs h.2.2.2.1 (fun b' o s e => by cases e; exact h.2.2.2.2 b hb hne)
theorem Fr.maxC {rb B : Nat} {w w' : World} (h : Fr rb B w w') (hm : MaxC w) (h0 : 1 < B) (hr : 1 ≠ rb) : MaxC w' := by
  obtain ⟨m, hm⟩ := hm
  exact ⟨m, by rw [← hm]; unfold World.cell?; rw [h.2.2.2.2 1 h0 hr]⟩

/-- the reader at block rb, whose blocks are ds and whose next look is f; its rows lie from block B on -/
def RdS (w : World) (rb B : Nat) (f : Value) (ds : List Dfn) : Prop := ∃ v qs lo, qs.map (·.d) = ds ∧ Blk w rb 53 #[v, f] ∧ rb < B ∧ OwnD 61 w B v qs ∧ B ≤ lo ∧ lo ≤ w.heap.size ∧ RowsAt w lo qs
theorem RdS.call {w w1 : World} {rb B : Nat} {f : Value} {ds : List Dfn} (h : RdS w rb B f ds) (hb : Below w.heap.size w w1) : RdS w1 rb B f ds := by
  obtain ⟨v, qs, lo, h1, h2, h0, h3, h4, h5, h6⟩ := h
  exact ⟨v, qs, lo, h1, h2.call hb, h0, h3.call hb, h4, Nat.le_trans h5 hb.size, h6.call hb⟩
theorem RdS.start {w : World} {rb B : Nat} {f : Value} (h : Blk w rb 53 #[.slice none 0 0, f]) (hB : rb < B) (hz : B ≤ w.heap.size) : RdS w rb B f [] :=
  ⟨_, [], B, rfl, h, hB, OwnD.nil _ _ _, Nat.le_refl _, hz, RowsAt.nil _ _⟩
theorem RdS.lt {w : World} {rb B : Nat} {f : Value} {ds : List Dfn} (h : RdS w rb B f ds) : rb < w.heap.size ∧ rb < B ∧ B ≤ w.heap.size := by
  obtain ⟨v, qs, lo, h1, h2, h0, h3, h4, h5, h6⟩ := h
  exact ⟨h2.lt, h0, by omega⟩
/-- what a reader has read, as a slice -/
theorem RdS.defs {w : World} {rb B : Nat} {f : Value} {ds : List Dfn} (h : RdS w rb B f ds) : ∃ a c, w.cell? ⟨rb, 0, none⟩ = some (.slice a ds.length c) ∧ HasDefs w a c ds := by
  obtain ⟨v, qs, lo, rfl, h2, _, h3, h4, h5, h6⟩ := h
  obtain ⟨a, c, rfl, hd⟩ := h3.defs fun q hq => ((h6.all h5) q hq).1.1
  exact ⟨a, c, by rw [List.length_map]; exact h2.cell 0, hd⟩
theorem RdS.look {w : World} {rb B : Nat} {f : Value} {ds : List Dfn} (h : RdS w rb B f ds) : w.cell? ⟨rb, 1, none⟩ = some f ∧ ∀ j, w.frozen? ⟨rb, j, none⟩ = false := by
  obtain ⟨v, qs, lo, h1, h2, _⟩ := h
  exact ⟨h2.cell 1, fun j => h2.frozen j⟩
/-- another look -/
theorem RdS.setLook {w : World} {rb B : Nat} {f : Value} {ds : List Dfn} (h : RdS w rb B f ds) (f' : Value) : RdS (w.setCell ⟨rb, 1, none⟩ f') rb B f' ds := by
  obtain ⟨v, qs, lo, h1, h2, h0, h3, h4, h5, h6⟩ := h
  exact ⟨v, qs, lo, h1, h2.set 1 f', h0, h3.setO (h3.ne h0) 1 f', h4, by simpa [World.setCell] using h5, h6.setB h2 (by decide) (by omega) 1 f'⟩

/-- a reader's call: what it answers, and what becomes of the reader -/
def LookP (rb B : Nat) (f : Value) (ds : List Dfn) (w : World) (e : Ending) (w' : World) : Prop := ∃ f0, e = .returned f ∧ RdS w' rb B f0 ds ∧ Fr rb B w w'
abbrev outV : Value := .func (.func 24) #[] #[]
abbrev withV : Value := .func (.func 46) #[] #[]
end Go.Proofs.YtekcmgajjbdmgabDoor
