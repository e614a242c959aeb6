/- Blocks in memory: a block's value, a slice of blocks that came in, one of the call's own that is appended to. -/
import Derived.Test.YtmhekhilgllciaaGreatBlkA
import Derived.Test.YtmhekhilgllciaaGreatSlcS
import Derived.Deep.QuietTactic
import Derived.BigQuiet
import Derived.Test.YtmhekhilgllciaaGreatOwnS
namespace Go.Proofs.YtmhekhilgllciaaGreat
open Go.RowKit

/-- a block with the places of its keys and values -/
structure DefAt where
  d : Dfn
  ka : Option Addr
  kc : Nat
  va : Option Addr
  vc : Nat
abbrev dCells (q : DefAt) : Array Value := #[.string q.d.kind, .slice q.ka q.d.keys.length q.kc, .slice q.va q.d.vals.length q.vc]
/-- its keys and values lie there -/
def DefAt.ok (w : World) (q : DefAt) : Prop := HasStrs w q.ka q.kc q.d.keys ∧ HasStrs w q.va q.vc q.d.vals ∧ q.d.kind.size ≤ maxLen
theorem DefAt.ok.call {w w1 : World} {q : DefAt} (h : q.ok w) (hb : Below w.heap.size w w1) : q.ok w1 := ⟨h.1.call hb, h.2.1.call hb, h.2.2⟩
/-- the value v is a block -/
def HasDef (w : World) (v : Value) (d : Dfn) : Prop := ∃ q : DefAt, q.d = d ∧ v = .agg (dCells q) ∧ q.ok w
/-- the slice '.slice a ds.length c' reads as the blocks ds -/
def HasDefs (w : World) (a : Option Addr) (c : Nat) (ds : List Dfn) : Prop :=
  ds.length ≤ c ∧ c ≤ maxLen ∧
    (ds = [] ∨ ∃ b off, a = some ⟨b, off, none⟩ ∧ b < w.heap.size ∧ ∀ i (h : i < ds.length), ∃ q : DefAt, q.d = ds[i] ∧
      (w.cell? ⟨b, off + i * 3, none⟩ = some (.string q.d.kind) ∧ w.cell? ⟨b, off + i * 3 + 1, none⟩ = some (.slice q.ka q.d.keys.length q.kc) ∧ w.cell? ⟨b, off + i * 3 + 2, none⟩ = some (.slice q.va q.d.vals.length q.vc)) ∧ q.ok w)
theorem HasDefs.call {w w' : World} {a : Option Addr} {c : Nat} {ds : List Dfn} (h : HasDefs w a c ds) (hb : Below w.heap.size w w') : HasDefs w' a c ds := by
  obtain ⟨h1, h2, h4⟩ := h
  refine ⟨h1, h2, ?_⟩
  rcases h4 with h4 | ⟨b, off, rfl, hlt, hc⟩
  · exact .inl h4
  · refine .inr ⟨b, off, rfl, Nat.lt_of_lt_of_le hlt hb.size, fun i hi => ?_⟩
    obtain ⟨q, e, ⟨g0, g1, g2⟩, g3⟩ := hc i hi
    exact ⟨q, e, ⟨cellL hb g0, cellL hb g1, cellL hb g2⟩, g3.call hb⟩
theorem HasDefs.nil (w : World) (a : Option Addr) (c : Nat) (hc : c ≤ maxLen) : HasDefs w a c [] := ⟨Nat.zero_le _, hc, .inl rfl⟩
theorem HasDefs.at {w : World} {b off c : Nat} {ds : List Dfn} (h : HasDefs w (some ⟨b, off, none⟩) c ds) (i : Nat) (hi : i < ds.length) : ∃ q : DefAt, q.d = ds[i] ∧
      (w.cell? ⟨b, off + i * 3, none⟩ = some (.string q.d.kind) ∧ w.cell? ⟨b, off + i * 3 + 1, none⟩ = some (.slice q.ka q.d.keys.length q.kc) ∧ w.cell? ⟨b, off + i * 3 + 2, none⟩ = some (.slice q.va q.d.vals.length q.vc)) ∧ q.ok w := by
  rcases h.2.2 with h4 | ⟨b', o', e, _, hc⟩
  · subst h4; simp at hi
  · cases e; exact hc i hi
theorem HasDefs.place {w : World} {a : Option Addr} {c : Nat} {ds : List Dfn} (h : HasDefs w a c ds) : ds = [] ∨ ∃ b off, a = some ⟨b, off, none⟩ := by
  rcases h.2.2 with h4 | ⟨b, off, e, _⟩
  · exact .inl h4
  · exact .inr ⟨b, off, e⟩
/-- the first blocks of a row -/
theorem HasDefs.take {w : World} {a : Option Addr} {c : Nat} {ds : List Dfn} (h : HasDefs w a c ds) (k : Nat) : HasDefs w a c (ds.take k) := by
  obtain ⟨h1, h2, h4⟩ := h
  refine ⟨by rw [List.length_take]; omega, h2, ?_⟩
  rcases h4 with h4 | ⟨b, off, rfl, hlt, hc⟩
  · exact .inl (by rw [h4]; simp)
  · refine .inr ⟨b, off, rfl, hlt, fun i hi => ?_⟩
    have hi' : i < ds.length := by rw [List.length_take] at hi; omega
    obtain ⟨q, e, r⟩ := hc i hi'
    exact ⟨q, by rw [e]; simp, r⟩
theorem HasStrs.at {w : World} {b off c : Nat} {ss : List ByteArray} (h : HasStrs w (some ⟨b, off, none⟩) c ss) (i : Nat) (hi : i < ss.length) : w.cell? ⟨b, off + i, none⟩ = some (.string ss[i]) := by
  rcases h.2.2.2 with h4 | ⟨b', o', e, _, hc⟩
  · subst h4; simp at hi
  · cases e; exact hc i hi
theorem HasStrs.takeN {w : World} {a : Option Addr} {c : Nat} {ss : List ByteArray} (h : HasStrs w a c ss) (k : Nat) : HasStrs w a c (ss.take k) := by
  obtain ⟨h1, h2, h3, h4⟩ := h
  refine ⟨by rw [List.length_take]; omega, h2, fun s hs => h3 s (List.mem_of_mem_take hs), ?_⟩
  rcases h4 with rfl | ⟨b, off, rfl, hb, hc⟩
  · exact .inl (by simp)
  · refine .inr ⟨b, off, rfl, hb, fun i hi => ?_⟩
    have hi' : i < ss.length := by rw [List.length_take] at hi; omega
    rw [hc i hi']; simp

/-- the cells of blocks -/
def defsV (qs : List DefAt) : List Value := qs.flatMap fun q => (dCells q).toList
theorem defsV_cons (l : DefAt) (qs : List DefAt) : defsV (l :: qs) = .string l.d.kind :: .slice l.ka l.d.keys.length l.kc :: .slice l.va l.d.vals.length l.vc :: defsV qs := rfl
theorem defsV_len (qs : List DefAt) : (defsV qs).length = qs.length * 3 := by
  induction qs with
  | nil => rfl
  | cons l qs ih => rw [defsV_cons, List.length_cons, List.length_cons, List.length_cons, ih, List.length_cons]; omega
theorem defsV_push (qs : List DefAt) (q : DefAt) : defsV qs ++ [.string q.d.kind, .slice q.ka q.d.keys.length q.kc, .slice q.va q.d.vals.length q.vc] = defsV (qs ++ [q]) := by simp [defsV]
theorem defsV_get : ∀ (qs : List DefAt) (i : Nat) (h : i < qs.length), (defsV qs)[i * 3]? = some (.string qs[i].d.kind) ∧ (defsV qs)[i * 3 + 1]? = some (.slice qs[i].ka qs[i].d.keys.length qs[i].kc) ∧ (defsV qs)[i * 3 + 2]? = some (.slice qs[i].va qs[i].d.vals.length qs[i].vc)
  | l :: qs, 0, _ => ⟨rfl, rfl, rfl⟩
  | l :: qs, i + 1, h => by
    have ih := defsV_get qs i (by simpa using h)
    rw [defsV_cons, show (i + 1) * 3 = i * 3 + 1 + 1 + 1 by omega]
    simp only [List.getElem?_cons_succ]
    exact ih
/-- v is the call's own slice of the blocks qs -/
def OwnD (T : TypeId) (w : World) (base : Nat) (v : Value) (qs : List DefAt) : Prop := w.ownsRow base T 3 v qs.length (defsV qs)
theorem OwnD.call {T : TypeId} {w w1 : World} {base : Nat} {v : Value} {qs : List DefAt} (h : OwnD T w base v qs) (hb : Below w.heap.size w w1) : OwnD T w1 base v qs :=
  World.ownsRow.kept h (row := none) ⟨hb.os, hb.tape, hb.output, hb.size, fun k hk _ => hb.block k hk⟩ (by cases v.ownBlock <;> simp)
theorem OwnD.alloc {T : TypeId} {w : World} {base : Nat} {v : Value} {qs : List DefAt} (h : OwnD T w base v qs) (o : Obj) : OwnD T (w.alloc o) base v qs := World.ownsRow.alloc h o
theorem OwnD.drew {T : TypeId} {w : World} {base : Nat} {v : Value} {qs : List DefAt} (h : OwnD T w base v qs) : OwnD T w.drew base v qs := h
theorem OwnD.nil (T : TypeId) (w : World) (base : Nat) : OwnD T w base (.slice none 0 0) [] := World.ownsRow_nil _ _ _ _
theorem OwnD.grown {T : TypeId} {w w1 : World} {base : Nat} {v : Value} {qs : List DefAt} (h : OwnD T w base v qs) {w0 : World} {B : Nat} (hb : Below B w0 w) (hB : B ≤ base) (hz : B ≤ w.heap.size) (hg : w.grownBy w1 v.ownBlock) : Below B w0 w1 :=
  hb.grown hg hz (fun k hk => Nat.le_trans hB (World.ownsRow.lt h k hk).1)
theorem OwnD.ne {T : TypeId} {w : World} {base : Nat} {v : Value} {qs : List DefAt} (h : OwnD T w base v qs) {g : Nat} (hg : g < base) : some g ≠ v.ownBlock := fun e => by have := (World.ownsRow.lt h _ e.symm).1; omega
/-- a store into another block, below or not -/
theorem OwnD.setO {T : TypeId} {w : World} {base : Nat} {v : Value} {qs : List DefAt} (h : OwnD T w base v qs) {g : Nat} (hg : some g ≠ v.ownBlock) (i : Nat) (u : Value) : OwnD T (w.setCell ⟨g, i, none⟩ u) base v qs :=
  World.ownsRow.kept h (grown_setCell w g i u) (.inr fun e => hg e.symm)
theorem OwnD.defs {T : TypeId} {w : World} {base : Nat} {v : Value} {qs : List DefAt} (h : OwnD T w base v qs) (hs : ∀ q ∈ qs, q.ok w) : ∃ a c, v = .slice a qs.length c ∧ HasDefs w a c (qs.map (·.d)) := by
  have h' : w.ownsRow base T 3 v qs.length (defsV qs) := h
  rcases h'.2 with ⟨rfl, h0⟩ | ⟨g, cap, cur, rfl, hb, hg, hn, hm, hcs, ht⟩
  · obtain rfl : qs = [] := List.eq_nil_of_length_eq_zero h0
    exact ⟨none, 0, rfl, HasDefs.nil _ _ _ (by unfold maxLen; omega)⟩
  · have hl : (defsV qs).length = qs.length * 3 := defsV_len qs
    refine ⟨some ⟨g, 0, none⟩, cap, rfl, by simpa using hn, hm, .inr ⟨g, 0, rfl, lt_of_block hg, fun i hi => ?_⟩⟩
    have hi' : i < qs.length := by simpa using hi
    obtain ⟨g1, g2, g3⟩ := defsV_get qs i hi'
    refine ⟨qs[i], by simp, ⟨?_, ?_, ?_⟩, hs _ (List.getElem_mem hi')⟩
    · rw [Nat.zero_add, h'.cellAt (i * 3) (by omega), g1]
    · rw [Nat.zero_add, h'.cellAt (i * 3 + 1) (by omega), g2]
    · rw [Nat.zero_add, h'.cellAt (i * 3 + 2) (by omega), g3]

/-- an append of one block, which has just been laid in a block of memory of its own -/
theorem wpList_pushD {P : Program} (W : World) {ops : Array Oper} {rest : List Oper} {o : Oper} {a : Act} {Q : Exit → Act → World → Prop} (hgd : o.guard = none) (s x : Operand) (t : TypeId)
    (ho : o.op = .call { callee := .builtin .append, args := #[s, x], argTypes := #[t, t] })
    (base : Nat) (e : TypeId) (i : TypeInfo) (z : Value) (ht : P.underlying t = some (.slice e)) (hi : P.info? e = some i) (hz : i.zero = some z)
    (hsize : i.size = 3) (hby : i.bytes = 64) (hzs : z.cells.size = 3)
    (v : Value) (qs : List DefAt) (hs : a.eval s = v) (hown : OwnD e W base v qs) (q : DefAt)
    (hx : a.eval x = .slice (some ⟨W.heap.size, 0, none⟩) 1 1)
    (h63 : qs.length ≤ 1000000) (hbase : base ≤ W.heap.size)
    (h : ∀ (v' : Value) (w' : World), OwnD e w' base v' (qs ++ [q]) → W.grownBy w' v.ownBlock → wpList P ops Q rest (a.put o.dst v') w') :
    wpList P ops Q (o :: rest) a (W.alloc (.cells (dCells q) e)) := by
  refine wpList_append_own (W.alloc (.cells (dCells q) e)) hgd s x t ho base e i z 3 64 ht hi hz hsize hby hzs (by omega) v qs.length (defsV qs) hs (World.ownsRow.alloc hown _) ⟨W.heap.size, 0, none⟩ 1 1 (dCells q).toList hx rfl ?_ ?_ (by unfold maxLen; omega) (by omega) (by simp; omega) ?_
  · intro j y hy
    have e0 : (⟨W.heap.size, 0, none⟩ : Addr).add j = ⟨W.heap.size, j, none⟩ := by unfold Addr.add; split <;> simp_all
    rw [e0, World.cell?_alloc_mark W (dCells q) e (0, 0) j]
    simpa using hy
  · intro y hy
    simp at hy
    rcases hy with rfl | rfl | rfl <;> rfl
  · intro v' w' hown' hg _
    refine h v' w' ?_ ⟨hg.os, hg.tape, hg.output, ?_, ?_⟩
    · unfold OwnD
      rw [← defsV_push, List.length_append]
      exact hown'
    · have := hg.size; simp at this; omega
    · intro k hk hne
      rw [hg.block k (by simp; omega) hne]
      exact Below.heap_alloc W _ k hk
theorem Tryz.infoD : (Tryz.prog.info? 113).map (fun i => (i.zero, i.size, i.bytes)) = some (some (.agg #[.string ⟨#[]⟩, .slice none 0 0, .slice none 0 0]), 3, 64) := by kernel_rfl
theorem info_partsD {x : Option TypeInfo} (h : x.map (fun i => (i.zero, i.size, i.bytes)) = some (some (.agg #[.string ⟨#[]⟩, .slice none 0 0, .slice none 0 0]), 3, 64)) : ∃ i, x = some i ∧ i.zero = some (.agg #[.string ⟨#[]⟩, .slice none 0 0, .slice none 0 0]) ∧ i.size = 3 ∧ i.bytes = 64 := by
  cases x with
  | none => cases h
  | some i => simp at h; exact ⟨i, rfl, h.1, h.2.1, h.2.2⟩
end Go.Proofs.YtmhekhilgllciaaGreat
