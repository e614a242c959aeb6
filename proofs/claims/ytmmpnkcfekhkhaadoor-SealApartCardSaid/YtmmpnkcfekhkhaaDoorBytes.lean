/- A block of bytes that a text was turned into, which is read, written and turned into a text again. It speaks of no one program. -/
import Derived.Test.YtmmpnkcfekhkhaaDoorLib2
namespace Go.Proofs.YtmmpnkcfekhkhaaDoor
open Go.RowKit

/-- block g holds the bytes l, none of them frozen -/
def HasBytes (w : World) (g : Nat) (l : List UInt8) : Prop :=
  ∃ (cur : Array Value) (e lo hi : Nat), w.heap[g]? = some (.cells cur e (lo, hi)) ∧ (l.length ≤ lo ∨ hi = 0) ∧ ∀ j (h : j < l.length), cur[j]? = some (.int .u8 (l[j].toNat : Int))

theorem HasBytes.lt {w : World} {g : Nat} {l : List UInt8} (h : HasBytes w g l) : g < w.heap.size := by
  obtain ⟨cur, e, lo, hi, hg, _⟩ := h
  exact lt_of_block hg
theorem HasBytes.cell {w : World} {g : Nat} {l : List UInt8} (h : HasBytes w g l) (j : Nat) (hj : j < l.length) : w.cell? ⟨g, j, none⟩ = some (.int .u8 (l[j].toNat : Int)) := by
  obtain ⟨cur, e, lo, hi, hg, _, hc⟩ := h
  simp [World.cell?, hg, hc j hj]
theorem HasBytes.free {w : World} {g : Nat} {l : List UInt8} (h : HasBytes w g l) (j : Nat) (hj : j < l.length) : w.frozen? ⟨g, j, none⟩ = false := by
  obtain ⟨cur, e, lo, hi, hg, hl, _⟩ := h
  simp [World.frozen?, hg]
  omega
theorem HasBytes.of_heap {w w' : World} {g : Nat} {l : List UInt8} (h : HasBytes w g l) (e : w'.heap[g]? = w.heap[g]?) : HasBytes w' g l := by
  obtain ⟨cur, t, lo, hi, hg, r⟩ := h
  exact ⟨cur, t, lo, hi, e.trans hg, r⟩
theorem HasBytes.drew {w : World} {g : Nat} {l : List UInt8} (h : HasBytes w g l) : HasBytes w.drew g l := h.of_heap rfl
theorem HasBytes.below {w w' : World} {g B : Nat} {l : List UInt8} (h : HasBytes w g l) (hb : Below B w w') (hg : g < B) : HasBytes w' g l := h.of_heap (hb.block g hg)
theorem HasBytes.call {w w' : World} {g : Nat} {l : List UInt8} (h : HasBytes w g l) (hb : Below w.heap.size w w') : HasBytes w' g l := h.below hb h.lt
theorem HasBytes.alloc {w : World} {g : Nat} {l : List UInt8} (h : HasBytes w g l) (o : Obj) : HasBytes (w.alloc o) g l := h.of_heap (Below.heap_alloc w o g h.lt)
theorem HasBytes.set {w : World} {g : Nat} {l : List UInt8} (h : HasBytes w g l) (i : Nat) (v : UInt8) : HasBytes (w.setCell ⟨g, i, none⟩ (.int .u8 (v.toNat : Int))) g (l.set i v) := by
  obtain ⟨cur, t, lo, hi, hg, hl, hc⟩ := h
  have hlt := lt_of_block hg
  have hg' : w.heap[g] = .cells cur t (lo, hi) := by simpa [Array.getElem?_eq_getElem hlt] using hg
  refine ⟨cur.setIfInBounds i (.int .u8 (v.toNat : Int)), t, lo, hi, ?_, by simpa using hl, ?_⟩
  · show (w.heap.modify g _)[g]? = _
    rw [Array.getElem?_eq_getElem (by simpa using hlt), Array.getElem_modify_self, hg']
    rfl
  · intro j hj
    have hj' : j < l.length := by simpa using hj
    have hcj := hc j hj'
    have hjc : j < cur.size := by
      rcases Nat.lt_or_ge j cur.size with h | h
      · exact h
      · simp [Array.getElem?_eq_none h] at hcj
    rw [Array.getElem?_setIfInBounds, List.getElem_set]
    by_cases e : i = j
    · subst e; simp [hjc]
    · simp [e, hcj]
theorem HasBytes.of_string (w : World) (s : ByteArray) (c t : Nat) (x : Nat) : HasBytes (w.alloc (.cells (bytesRow s c) t ((bytesRow s c).size, x))) w.heap.size s.data.toList := by
  refine ⟨bytesRow s c, t, (bytesRow s c).size, x, (by show (w.heap.push _)[w.heap.size]? = _; simp), .inl ?_, ?_⟩
  · simp [bytesRow]
  · intro j hj
    rw [bytesRow_at s c j (by simpa using hj)]
    simp
theorem HasBytes.str {P : Program} {w : World} {g src dst e cap : Nat} {l : List UInt8} (h : HasBytes w g l) (hs : P.underlying src = some (.slice e)) (he : P.underlying e = some (.int .u8)) (hd : P.underlying dst = some .string) :
    (convert src dst (.slice (some ⟨g, 0, none⟩) l.length cap)).run P w = .ok (.string ⟨l.toArray⟩) w := by
  refine run_convert_bytes_back w src dst e ⟨g, 0, none⟩ cap l hs he hd ?_
  intro j hj
  have e0 : (⟨g, 0, none⟩ : Addr).add j = ⟨g, j, none⟩ := by unfold Addr.add; split <;> simp_all
  rw [e0]
  exact h.cell j hj

/-- for a region that draws its order: what is known of a block of bytes is known behind a call, too -/
theorem held_bytes {w w1 : World} {g : Nat} {X : List UInt8} {C : World → Prop} (hv : ∀ W, HasBytes W g X → C W) (h : HasBytes w g X ∧ C w) (hb : Below w.heap.size w w1) : HasBytes w1 g X ∧ C w1 :=
  ⟨h.1.call hb, hv _ (h.1.call hb)⟩

end Go.Proofs.YtmmpnkcfekhkhaaDoor
