/- A slice of bytes of the call's own that is appended to: bytes just laid, a text. It speaks of no one program. -/
import Derived.Test.YtmhekhilgllciaaGreatAppend
namespace Go.Proofs.YtmhekhilgllciaaGreat
open Go.RowKit

/-- v is the call's own slice of the bytes l -/
def OwnB (T : TypeId) (w : World) (base : Nat) (v : Value) (l : List UInt8) : Prop := w.ownsRow base T 1 v l.length (bytesV l)
theorem OwnB.call {T : TypeId} {w w1 : World} {base : Nat} {v : Value} {l : List UInt8} (h : OwnB T w base v l) (hb : Below w.heap.size w w1) : OwnB T w1 base v l :=
  World.ownsRow.kept h (row := none) ⟨hb.os, hb.tape, hb.output, hb.size, fun k hk _ => hb.block k hk⟩ (by cases v.ownBlock <;> simp)
theorem OwnB.alloc {T : TypeId} {w : World} {base : Nat} {v : Value} {l : List UInt8} (h : OwnB T w base v l) (o : Obj) : OwnB T (w.alloc o) base v l := World.ownsRow.alloc h o
theorem OwnB.base {T : TypeId} {w : World} {b b' : Nat} {v : Value} {l : List UInt8} (h : OwnB T w b v l) (hb : b' ≤ b) : OwnB T w b' v l := by
  obtain ⟨h1, h2⟩ := h
  refine ⟨h1, ?_⟩
  rcases h2 with h2 | ⟨g, cap, cur, hv, hg, r⟩
  · exact .inl h2
  · exact .inr ⟨g, cap, cur, hv, Nat.le_trans hb hg, r⟩
theorem OwnB.grown {T : TypeId} {w w1 : World} {base : Nat} {v : Value} {l : List UInt8} (h : OwnB T w base v l) {w0 : World} (hb : Below base w0 w) (hz : base ≤ w.heap.size) (hg : w.grownBy w1 v.ownBlock) : Below base w0 w1 :=
  hb.grown hg hz (fun k hk => (World.ownsRow.lt h k hk).1)

theorem wpList_pushB {P : Program} (W : World) {ops : Array Oper} {rest : List Oper} {o : Oper} {a : Act} {Q : Exit → Act → World → Prop} (hgd : o.guard = none) (s x : Operand) (t : TypeId)
    (ho : o.op = .call { callee := .builtin .append, args := #[s, x], argTypes := #[t, t] })
    (base : Nat) (e : TypeId) (i : TypeInfo) (z : Value) (ht : P.underlying t = some (.slice e)) (hi : P.info? e = some i) (hz : i.zero = some z) (hsize : i.size = 1) (hby : i.bytes = 1) (hzs : z.cells.size = 1)
    (v : Value) (l cs : List UInt8) (hs : a.eval s = v) (hown : OwnB e W base v l) (us : List Value) (n : Nat) (hus : us = bytesV cs) (hn : n = cs.length)
    (hx : a.eval x = .slice (some ⟨W.heap.size, 0, none⟩) n n) (h63 : l.length + cs.length ≤ 100000000) (hbase : base ≤ W.heap.size)
    (h : ∀ (v' : Value) (w' : World), OwnB e w' base v' (l ++ cs) → W.grownBy w' v.ownBlock → wpList P ops Q rest (a.put o.dst v') w') :
    wpList P ops Q (o :: rest) a (W.alloc (.cells us.toArray e)) := by
  subst hus hn
  refine wpList_append_own (W.alloc (.cells (bytesV cs).toArray e)) hgd s x t ho base e i z 1 1 ht hi hz hsize hby hzs (by omega) v l.length (bytesV l) hs (World.ownsRow.alloc hown _) ⟨W.heap.size, 0, none⟩ cs.length cs.length (bytesV cs) hx (by rw [bytesV_len]; omega) ?_ ?_ (by unfold maxLen; omega) (by omega) (by simp; omega) ?_
  · intro j y hy
    have e0 : (⟨W.heap.size, 0, none⟩ : Addr).add j = ⟨W.heap.size, j, none⟩ := by unfold Addr.add; split <;> simp_all
    rw [e0]
    have := World.cell?_alloc_mark W (bytesV cs).toArray e (0, 0) j
    rw [show (W.alloc (.cells (bytesV cs).toArray e)).cell? ⟨W.heap.size, j, none⟩ = _ from this]
    simpa using hy
  · intro y hy
    obtain ⟨c, _, rfl⟩ := List.mem_map.1 hy
    rfl
  · intro v' w' hown' hg _
    refine h v' w' ?_ ⟨hg.os, hg.tape, hg.output, ?_, ?_⟩
    · unfold OwnB
      rw [bytesV_app, List.length_append]
      exact hown'
    · have := hg.size; simp at this; omega
    · intro k hk hne
      rw [hg.block k (by simp; omega) hne]
      exact Below.heap_alloc W _ k hk

theorem wpList_appB {P : Program} (w : World) {ops : Array Oper} {rest : List Oper} {o : Oper} {a : Act} {Q : Exit → Act → World → Prop} (hgd : o.guard = none) (s x : Operand) (t tx : TypeId)
    (ho : o.op = .call { callee := .builtin .append, args := #[s, x], argTypes := #[t, tx] })
    (base : Nat) (e : TypeId) (i : TypeInfo) (z : Value) (ht : P.underlying t = some (.slice e)) (htx : P.underlying tx = some .string) (hi : P.info? e = some i) (hz : i.zero = some z) (hsize : i.size = 1) (hby : i.bytes = 1) (hzs : z.cells.size = 1)
    (v : Value) (l : List UInt8) (hs : a.eval s = v) (hown : OwnB e w base v l) (b : ByteArray) (hx : a.eval x = .string b)
    (h63 : l.length + b.size ≤ 100000000) (hbase : base ≤ w.heap.size)
    (h : ∀ (v' : Value) (w' : World), OwnB e w' base v' (l ++ b.data.toList) → w.grownBy w' v.ownBlock → wpList P ops Q rest (a.put o.dst v') w') : wpList P ops Q (o :: rest) a w := by
  have hsrc : Src P 1 tx (.string b) b.size (bytesV b.data.toList) w := Src.ofString w htx b
  refine wpList_append_src w hgd s x t tx ho base e i z 1 1 ht hi hz hsize hby hzs v l.length (bytesV l) hs hown (.string b) b.size (bytesV b.data.toList) hx hsrc (by unfold maxLen; omega) (by omega) hbase ?_
  intro v' w' hown' hg
  refine h v' w' ?_ hg
  unfold OwnB
  rw [bytesV_app, List.length_append]
  simpa using hown'
/-- what such a slice is as a text -/
theorem OwnB.str {P : Program} {w : World} {base src dst e : Nat} {v : Value} {l : List UInt8} (hown : OwnB e w base v l) (hs : P.underlying src = some (.slice e)) (he : P.underlying e = some (.int .u8)) (hd : P.underlying dst = some .string) :
    (convert src dst v).run P w = .ok (.string ⟨l.toArray⟩) w := by
  rcases hown.2 with ⟨rfl, h0⟩ | ⟨g, cap, cur, rfl, _⟩
  · obtain rfl : l = [] := List.eq_nil_of_length_eq_zero h0
    exact run_convert_bytes_nil w src e hs he 0 0 dst hd
  · exact run_str_own hs he hd hown
theorem OwnB.made (T : TypeId) (w : World) (cs : List UInt8) (h : cs.length ≤ 100000000) : OwnB T (w.alloc (.cells (bytesV cs).toArray T)) w.heap.size (.slice (some ⟨w.heap.size, 0, none⟩) cs.length cs.length) cs := by
  refine ⟨by rw [bytesV_len]; omega, .inr ⟨w.heap.size, cs.length, (bytesV cs).toArray, rfl, Nat.le_refl _, ?_, Nat.le_refl _, by unfold maxLen; omega, by simp [bytesV_len], ?_⟩⟩
  · show (w.heap.push _)[w.heap.size]? = _; simp
  · simp [List.take_of_length_le, bytesV_len]

/-- block g is just these cells -/
def Blk (w : World) (g : Nat) (t : TypeId) (cs : Array Value) : Prop := w.heap[g]? = some (.cells cs t (0, 0))
theorem Blk.lt {w : World} {g : Nat} {t : TypeId} {cs : Array Value} (h : Blk w g t cs) : g < w.heap.size := lt_of_block h
theorem Blk.new (w : World) (t : TypeId) (cs : Array Value) : Blk (w.alloc (.cells cs t)) w.heap.size t cs := by
  show (w.heap.push _)[w.heap.size]? = _; simp
theorem Blk.cell {w : World} {g : Nat} {t : TypeId} {cs : Array Value} (h : Blk w g t cs) (i : Nat) : w.cell? ⟨g, i, none⟩ = cs[i]? := by
  unfold Blk at h
  simp [World.cell?, h]
theorem Blk.below {w w1 : World} {g B : Nat} {t : TypeId} {cs : Array Value} (h : Blk w g t cs) (hb : Below B w w1) (hg : g < B) : Blk w1 g t cs := (hb.block g hg).trans h
theorem Blk.call {w w1 : World} {g : Nat} {t : TypeId} {cs : Array Value} (h : Blk w g t cs) (hb : Below w.heap.size w w1) : Blk w1 g t cs := h.below hb h.lt
theorem Blk.push {w w1 : World} {g : Nat} {t : TypeId} {cs : Array Value} (h : Blk w g t cs) {row : Option Nat} (hg : w.grownBy w1 row) (hne : some g ≠ row) : Blk w1 g t cs := (hg.block g h.lt hne).trans h
theorem Blk.pushB {w w1 : World} {g base : Nat} {t e : TypeId} {cs : Array Value} {v : Value} {l : List UInt8} (h : Blk w g t cs) (hown : OwnB e w base v l) (hne : e ≠ t) (hg : w.grownBy w1 v.ownBlock) : Blk w1 g t cs := by
  refine h.push hg fun e1 => ?_
  rcases hown.2 with ⟨rfl, _⟩ | ⟨g1, cap, cur, rfl, _, hh, _⟩
  · cases e1
  · have e2 : g = g1 := by simpa [Value.ownBlock] using e1
    subst e2
    unfold Blk at h
    rw [h] at hh
    simp at hh
    exact hne hh.2.symm
theorem Blk.set {w : World} {g : Nat} {t : TypeId} {cs : Array Value} (h : Blk w g t cs) (i : Nat) (v : Value) : Blk (w.setCell ⟨g, i, none⟩ v) g t (cs.setIfInBounds i v) := by
  have hlt := h.lt
  unfold Blk at h ⊢
  have hg' : w.heap[g] = .cells cs t (0, 0) := by simpa [Array.getElem?_eq_getElem hlt] using h
  show (w.heap.modify g _)[g]? = _
  rw [Array.getElem?_eq_getElem (by simpa using hlt), Array.getElem_modify_self, hg']
  rfl

theorem Blk.frozen {w : World} {g : Nat} {t : TypeId} {cs : Array Value} (h : Blk w g t cs) (i : Nat) : w.frozen? ⟨g, i, none⟩ = false := by
  unfold Blk at h
  simp [World.frozen?, h]

theorem Blk.setO {w : World} {g : Nat} {t : TypeId} {cs : Array Value} (h : Blk w g t cs) (p : Addr) (v : Value) (hne : g ≠ p.block) : Blk (w.setCell p v) g t cs := (Below.heap_setCell w p v g hne).trans h
/-- three stores into a block of three cells -/
theorem Blk.set3 {w : World} {g : Nat} {t : TypeId} {x y z : Value} (h : Blk w g t #[x, y, z]) (a b c : Value) : Blk (((w.setCell ⟨g, 0, none⟩ a).setCell ⟨g, 1, none⟩ b).setCell ⟨g, 2, none⟩ c) g t #[a, b, c] := ((h.set 0 a).set 1 b).set 2 c
theorem Blk.set3O {w : World} {g k : Nat} {t : TypeId} {cs : Array Value} (h : Blk w k t cs) (hne : k ≠ g) (a b c : Value) : Blk (((w.setCell ⟨g, 0, none⟩ a).setCell ⟨g, 1, none⟩ b).setCell ⟨g, 2, none⟩ c) k t cs := ((h.setO _ a hne).setO _ b hne).setO _ c hne
theorem below_set3 {B : Nat} {w0 w : World} {g : Nat} (h : Below B w0 w) (hg : B ≤ g) (a b c : Value) : Below B w0 (((w.setCell ⟨g, 0, none⟩ a).setCell ⟨g, 1, none⟩ b).setCell ⟨g, 2, none⟩ c) := ((h.setCell hg a).setCell hg b).setCell hg c
/-- what is known of a block of three cells -/
theorem Blk.cells3 {w : World} {g : Nat} {t : TypeId} {x y z : Value} (h : Blk w g t #[x, y, z]) : w.cell? ⟨g, 0, none⟩ = some x ∧ w.cell? ⟨g, 1, none⟩ = some y ∧ w.cell? ⟨g, 2, none⟩ = some z :=
  ⟨h.cell 0, h.cell 1, h.cell 2⟩
theorem Blk.drew {w : World} {g : Nat} {t : TypeId} {cs : Array Value} (h : Blk w g t cs) : Blk w.drew g t cs := h
theorem Blk.alloc {w : World} {g : Nat} {t : TypeId} {cs : Array Value} (h : Blk w g t cs) (o : Obj) : Blk (w.alloc o) g t cs := h.call ((Below.refl _ _).alloc (Nat.le_refl _) _)
end Go.Proofs.YtmhekhilgllciaaGreat
