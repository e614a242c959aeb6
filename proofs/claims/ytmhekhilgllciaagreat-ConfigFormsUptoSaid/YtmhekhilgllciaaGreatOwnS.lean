/- A slice of texts of the call's own that is appended to, and the block in whose cell it lies. It speaks of no one program. -/
import Derived.Test.YtmhekhilgllciaaGreatOwn
import Derived.Test.YtmhekhilgllciaaGreatStrs
namespace Go.Proofs.YtmhekhilgllciaaGreat
open Go.RowKit

/-- v is the call's own slice of the texts ss -/
def OwnS (T : TypeId) (w : World) (base : Nat) (v : Value) (ss : List ByteArray) : Prop := w.ownsRow base T 1 v ss.length (strsV ss)
theorem OwnS.call {T : TypeId} {w w1 : World} {base : Nat} {v : Value} {ss : List ByteArray} (h : OwnS T w base v ss) (hb : Below w.heap.size w w1) : OwnS T w1 base v ss :=
  World.ownsRow.kept h (row := none) ⟨hb.os, hb.tape, hb.output, hb.size, fun k hk _ => hb.block k hk⟩ (by cases v.ownBlock <;> simp)
theorem OwnS.alloc {T : TypeId} {w : World} {base : Nat} {v : Value} {ss : List ByteArray} (h : OwnS T w base v ss) (o : Obj) : OwnS T (w.alloc o) base v ss := World.ownsRow.alloc h o
theorem OwnS.drew {T : TypeId} {w : World} {base : Nat} {v : Value} {ss : List ByteArray} (h : OwnS T w base v ss) : OwnS T w.drew base v ss := h
theorem OwnS.grown {T : TypeId} {w w1 : World} {base : Nat} {v : Value} {ss : List ByteArray} (h : OwnS T w base v ss) {w0 : World} {B : Nat} (hb : Below B w0 w) (hB : B ≤ base) (hz : B ≤ w.heap.size) (hg : w.grownBy w1 v.ownBlock) : Below B w0 w1 :=
  hb.grown hg hz (fun k hk => Nat.le_trans hB (World.ownsRow.lt h k hk).1)
theorem OwnS.nil (T : TypeId) (w : World) (base : Nat) : OwnS T w base (.slice none 0 0) [] := World.ownsRow_nil _ _ _ _
theorem OwnS.strs {T : TypeId} {w : World} {base : Nat} {v : Value} {ss : List ByteArray} (h : OwnS T w base v ss) (hs : ∀ s ∈ ss, s.size ≤ maxLen) : ∃ a c, v = .slice a ss.length c ∧ HasStrs w a c ss := strs_of_own h hs
theorem OwnS.ne {T : TypeId} {w : World} {base : Nat} {v : Value} {ss : List ByteArray} (h : OwnS T w base v ss) {g : Nat} (hg : g < base) : some g ≠ v.ownBlock := fun e => by have := (World.ownsRow.lt h _ e.symm).1; omega
theorem grown_setCell (w : World) (g i : Nat) (v : Value) : w.grownBy (w.setCell ⟨g, i, none⟩ v) (some g) :=
  ⟨rfl, rfl, rfl, by simp [World.setCell], fun k _ hk => Below.heap_setCell w ⟨g, i, none⟩ v k (fun e => hk (by rw [e]))⟩
/-- a store into another block -/
theorem OwnS.setCell {T : TypeId} {w : World} {base : Nat} {v : Value} {ss : List ByteArray} (h : OwnS T w base v ss) {g : Nat} (hg : g < base) (i : Nat) (u : Value) : OwnS T (w.setCell ⟨g, i, none⟩ u) base v ss :=
  World.ownsRow.kept h (grown_setCell w g i u) (.inr fun e => h.ne hg e.symm)
theorem strsV_one (ss : List ByteArray) : ∀ u ∈ strsV ss, u.oneCell' = true := by
  intro u hu
  obtain ⟨s, _, rfl⟩ := List.mem_map.1 hu
  rfl

theorem step_pushS {P : Program} (W : World) {ops : Array Oper} {o : Oper} {a : Act} {K : Act → World → Prop} {Q : Exit → Act → World → Prop} {E : Prop} (hgd : o.guard = none) (s x : Operand) (t : TypeId)
    (ho : o.op = .call { callee := .builtin .append, args := #[s, x], argTypes := #[t, t] })
    (base : Nat) (e : TypeId) (i : TypeInfo) (z : Value) (ht : P.underlying t = some (.slice e)) (hi : P.info? e = some i) (hz : i.zero = some z) (hsize : i.size = 1) (hby : i.bytes = 16) (hzs : z.cells.size = 1)
    (v : Value) (ss : List ByteArray) (l : ByteArray) (hs : a.eval s = v) (hown : OwnS e W base v ss) (B : Nat)
    (hx : a.eval x = .slice (some ⟨B, 0, none⟩) 1 1) (hB : B = W.heap.size) (h63 : ss.length ≤ 1000000) (hbase : base ≤ W.heap.size)
    (h : ∀ (v' : Value) (w' : World), OwnS e w' base v' (ss ++ [l]) → W.grownBy w' v.ownBlock → K (a.put o.dst v') w') :
    if Region.wanted o (yielded ops a.tmps) = true then Oper.wp P o a (W.alloc (.cells #[.string l] e)) K Q else E := by
  have hw : Region.wanted o (yielded ops a.tmps) = true := by simp [Region.wanted, hgd]
  rw [if_pos hw]
  subst hB
  refine wp_append_own (W.alloc (.cells (strsV [l]).toArray e)) s x t ho base e i z 1 16 ht hi hz hsize hby hzs (by omega) v ss.length (strsV ss) hs (World.ownsRow.alloc hown _) ⟨W.heap.size, 0, none⟩ 1 1 (strsV [l]) hx (by rw [strsV_len]; rfl) ?_ ?_ (by unfold maxLen; omega) (by omega) (by simp; omega) ?_
  · intro j y hy
    have e0 : (⟨W.heap.size, 0, none⟩ : Addr).add j = ⟨W.heap.size, j, none⟩ := by unfold Addr.add; split <;> simp_all
    rw [e0]
    rw [show (W.alloc (.cells (strsV [l]).toArray e)).cell? ⟨W.heap.size, j, none⟩ = _ from World.cell?_alloc_mark W (strsV [l]).toArray e (0, 0) j]
    simpa using hy
  · exact strsV_one _
  · intro v' w' hown' hg _
    refine h v' w' ?_ ⟨hg.os, hg.tape, hg.output, ?_, ?_⟩
    · unfold OwnS
      rw [← strsV_push, List.length_append]
      exact hown'
    · have := hg.size; simp at this; omega
    · intro k hk hne
      rw [hg.block k (by simp; omega) hne]
      exact Below.heap_alloc W _ k hk
end Go.Proofs.YtmhekhilgllciaaGreat
