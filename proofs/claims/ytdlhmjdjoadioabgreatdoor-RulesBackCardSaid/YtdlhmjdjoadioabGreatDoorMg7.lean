/- A block of bytes that a text was turned into, which is read, written and turned into a text again. It speaks of no one program. -/
import Derived.Test.YtdlhmjdjoadioabGreatDoorMg2
import Derived.Test.YtdlhmjdjoadioabGreatDoorZLabT
import Derived.Test.YtdlhmjdjoadioabGreatDoorZOwn
namespace Go.Proofs.YtdlhmjdjoadioabGreatDoor
open Go.RowKit

/-- block g holds the bytes l, none of them frozen -/
def HasBytes (w : World) (g : Nat) (l : List UInt8) : Prop :=
  ∃ (cur : Array Value) (e lo hi : Nat), w.heap[g]? = some (.cells cur e (lo, hi)) ∧ (l.length ≤ lo ∨ hi = 0) ∧ ∀ j (h : j < l.length), cur[j]? = some (.int .u8 (l[j].toNat : Int))

theorem HasBytes.lt {w : World} {g : Nat} {l : List UInt8} (h : HasBytes w g l) : g < w.heap.size := by
  obtain ⟨cur, e, lo, hi, hg, _⟩ := h
  exact lt_of_block hg
theorem HasBytes.cell {w : World} {g : Nat} {l : List UInt8} (h : HasBytes w g l) (j : Nat) (hj : j < l.length) : w.cell? ⟨g, j, none⟩ = some (.int .u8 (l[j].toNat : Int)) := by
  obtain ⟨cur, e, lo, hi, hg, _, hc⟩ := h
  simp [World.cell?, hg, hc j hj]
theorem HasBytes.free {w : World} {g : Nat} {l : List UInt8} (h : HasBytes w g l) (j : Nat) (hj : j < l.length) : w.frozen? ⟨g, j, none⟩ = false := by
  obtain ⟨cur, e, lo, hi, hg, hl, _⟩ := h
  simp [World.frozen?, hg]
  omega
theorem HasBytes.of_heap {w w' : World} {g : Nat} {l : List UInt8} (h : HasBytes w g l) (e : w'.heap[g]? = w.heap[g]?) : HasBytes w' g l := by
  obtain ⟨cur, t, lo, hi, hg, r⟩ := h
  exact ⟨cur, t, lo, hi, e.trans hg, r⟩
theorem HasBytes.drew {w : World} {g : Nat} {l : List UInt8} (h : HasBytes w g l) : HasBytes w.drew g l := h.of_heap rfl
theorem HasBytes.below {w w' : World} {g B : Nat} {l : List UInt8} (h : HasBytes w g l) (hb : Below B w w') (hg : g < B) : HasBytes w' g l := h.of_heap (hb.block g hg)
theorem HasBytes.call {w w' : World} {g : Nat} {l : List UInt8} (h : HasBytes w g l) (hb : Below w.heap.size w w') : HasBytes w' g l := h.below hb h.lt
theorem HasBytes.alloc {w : World} {g : Nat} {l : List UInt8} (h : HasBytes w g l) (o : Obj) : HasBytes (w.alloc o) g l := h.of_heap (Below.heap_alloc w o g h.lt)
theorem HasBytes.set {w : World} {g : Nat} {l : List UInt8} (h : HasBytes w g l) (i : Nat) (v : UInt8) : HasBytes (w.setCell ⟨g, i, none⟩ (.int .u8 (v.toNat : Int))) g (l.set i v) := by
  obtain ⟨cur, t, lo, hi, hg, hl, hc⟩ := h
  have hlt := lt_of_block hg
  have hg' : w.heap[g] = .cells cur t (lo, hi) := by simpa [Array.getElem?_eq_getElem hlt] using hg
  refine ⟨cur.setIfInBounds i (.int .u8 (v.toNat : Int)), t, lo, hi, ?_, by simpa using hl, ?_⟩
  · show (w.heap.modify g _)[g]? = _
    rw [Array.getElem?_eq_getElem (by simpa using hlt), Array.getElem_modify_self, hg']
    rfl
  · intro j hj
    have hj' : j < l.length := by simpa using hj
    have hcj := hc j hj'
    have hjc : j < cur.size := by
      rcases Nat.lt_or_ge j cur.size with h | h
      · exact h
      · simp [Array.getElem?_eq_none h] at hcj
    rw [Array.getElem?_setIfInBounds, List.getElem_set]
    by_cases e : i = j
    · subst e; simp [hjc]
    · simp [e, hcj]
theorem HasBytes.of_string (w : World) (s : ByteArray) (c t : Nat) (x : Nat) : HasBytes (w.alloc (.cells (bytesRow s c) t ((bytesRow s c).size, x))) w.heap.size s.data.toList := by
  refine ⟨bytesRow s c, t, (bytesRow s c).size, x, (by show (w.heap.push _)[w.heap.size]? = _; simp), .inl ?_, ?_⟩
  · simp [bytesRow]
  · intro j hj
    rw [bytesRow_at s c j (by simpa using hj)]
    simp
theorem HasBytes.str {P : Program} {w : World} {g src dst e cap : Nat} {l : List UInt8} (h : HasBytes w g l) (hs : P.underlying src = some (.slice e)) (he : P.underlying e = some (.int .u8)) (hd : P.underlying dst = some .string) :
    (convert src dst (.slice (some ⟨g, 0, none⟩) l.length cap)).run P w = .ok (.string ⟨l.toArray⟩) w := by
  refine run_convert_bytes_back w src dst e ⟨g, 0, none⟩ cap l hs he hd ?_
  intro j hj
  have e0 : (⟨g, 0, none⟩ : Addr).add j = ⟨g, j, none⟩ := by unfold Addr.add; split <;> simp_all
  rw [e0]
  exact h.cell j hj

/-- for a region that draws its order: what is known of a block of bytes is known behind a call, too -/
theorem held_bytes {w w1 : World} {g : Nat} {X : List UInt8} {C : World → Prop} (hv : ∀ W, HasBytes W g X → C W) (h : HasBytes w g X ∧ C w) (hb : Below w.heap.size w w1) : HasBytes w1 g X ∧ C w1 :=
  ⟨h.1.call hb, hv _ (h.1.call hb)⟩

end Go.Proofs.YtdlhmjdjoadioabGreatDoor
/- Bytes of a text put behind a row of the own. -/
namespace Go.Proofs.YtdlhmjdjoadioabGreatDoor
open Go.RowKit


theorem wpList_appS {P : Program} (w : World) {ops : Array Oper} {rest : List Oper} {o : Oper} {a : Act} {Q : Exit → Act → World → Prop} (hgd : o.guard = none) (s x : Operand) (t tx : TypeId)
    (ho : o.op = .call { callee := .builtin .append, args := #[s, x], argTypes := #[t, tx] })
    (base : Nat) (e e' : TypeId) (i : TypeInfo) (z : Value) (ht : P.underlying t = some (.slice e)) (htx : P.underlying tx = some (.slice e')) (hi : P.info? e = some i) (hz : i.zero = some z) (hsize : i.size = 1) (hby : i.bytes = 1) (hzs : z.cells.size = 1)
    (v : Value) (l cs : List UInt8) (hs : a.eval s = v) (hown : OwnB e w base v l) (g n c : Nat) (hn : n = cs.length) (hb : HasBytes w g cs) (hx : a.eval x = .slice (some ⟨g, 0, none⟩) n c)
    (h63 : l.length + cs.length ≤ 100000000) (hbase : base ≤ w.heap.size)
    (h : ∀ (v' : Value) (w' : World), OwnB e w' base v' (l ++ cs) → w.grownBy w' v.ownBlock → wpList P ops Q rest (a.put o.dst v') w') : wpList P ops Q (o :: rest) a w := by
  subst hn
  have hsrc : Src P 1 tx (.slice (some ⟨g, 0, none⟩) cs.length c) cs.length (bytesV cs) w := Src.ofSlice w htx _ _ _ _ (by rw [bytesV_len]; omega) (by
    intro j u hu
    have hj : j < cs.length := by
      rcases Nat.lt_or_ge j cs.length with h | h
      · exact h
      · simp [bytesV, h] at hu
    have e0 : (⟨g, 0, none⟩ : Addr).add j = ⟨g, j, none⟩ := by unfold Addr.add; split <;> simp_all
    rw [e0, hb.cell j hj, ← hu, bytesV_get cs j hj]) (by
    intro u hu
    obtain ⟨c, _, rfl⟩ := List.mem_map.1 hu
    rfl)
  refine wpList_append_src w hgd s x t tx ho base e i z 1 1 ht hi hz hsize hby hzs v l.length (bytesV l) hs hown _ cs.length (bytesV cs) hx hsrc (by unfold maxLen; omega) (by omega) hbase ?_
  intro v' w' hown' hg
  refine h v' w' ?_ hg
  unfold OwnB
  rw [bytesV_app, List.length_append]
  exact hown'

theorem OwnB.drew {T : TypeId} {w : World} {base : Nat} {v : Value} {l : List UInt8} (h : OwnB T w base v l) : OwnB T w.drew base v l := h.call (below_drewN (Below.refl _ _) 1)
end Go.Proofs.YtdlhmjdjoadioabGreatDoor
