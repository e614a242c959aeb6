/- For the walk of block.within where a key is put behind the others: appends at a step of a region that draws its order, what they leave, a store into a row of blocks. -/
import Derived.Test.YtekcmgajjbdmgabDoorPrsE
import Derived.Deep.AppendLies
import Derived.RegionTactic
import Derived.BigRegion
import Derived.Deep.RegionLaw
namespace Go.Proofs.YtekcmgajjbdmgabDoor
open Go.RowKit

theorem bal {w W : World} {o : Obj} (h : Below w.heap.size w W) : Below w.heap.size w (W.alloc o) := h.alloc h.size _
/-- an append of one text, which lies in a block of memory of its own, to a row of texts: where the new row lies is told -/
theorem step_appT {P : Program} (W : World) {ops : Array Oper} {o : Oper} {a : Act} {K : Act → World → Prop} {Q : Exit → Act → World → Prop} {E : Prop} (hgd : o.guard = none) (s x : Operand) (t : TypeId)
    (ho : o.op = .call { callee := .builtin .append, args := #[s, x], argTypes := #[t, t] })
    (base : Nat) (e : TypeId) (i : TypeInfo) (z : Value) (ht : P.underlying t = some (.slice e)) (hi : P.info? e = some i) (hz : i.zero = some z) (hsize : i.size = 1) (hby : i.bytes = 16) (hzs : z.cells.size = 1)
    (v : Value) (ss : List ByteArray) (l : ByteArray) (hs : a.eval s = v) (hown : OwnS e W base v ss)
    (hxB : ∃ B, a.eval x = .slice (some ⟨B, 0, none⟩) 1 1 ∧ W.cell? ⟨B, 0, none⟩ = some (.string l)) (h63 : ss.length ≤ 1000000) (hbase : base ≤ W.heap.size)
    (h : ∀ (g cap : Nat) (w' : World), OwnS e w' base (.slice (some ⟨g, 0, none⟩) (ss.length + 1) cap) (ss ++ [l]) → W.grownBy w' v.ownBlock → (v.ownBlock = some g ∨ W.heap.size ≤ g) → K (a.put o.dst (.slice (some ⟨g, 0, none⟩) (ss.length + 1) cap)) w') :
    if Region.wanted o (yielded ops a.tmps) = true then Oper.wp P o a W K Q else E := by
  obtain ⟨B, hx, hB⟩ := hxB
  refine Go.step_append_lies W hgd s x t ho base e i z 1 16 ht hi hz hsize hby hzs (by omega) v ss.length (strsV ss) hs hown ⟨B, 0, none⟩ 1 1 [.string l] hx rfl ?_ ?_ (by omega) (by unfold maxLen; omega) (by omega) hbase W.heap.size rfl ?_
  · intro j u hu
    match j, hu with
    | 0, hu => simp at hu; subst hu; exact hB
  · intro u hu; simp at hu; subst hu; rfl
  · intro g cap w' h2 h3 h4 _
    refine h g cap w' ?_ h3 (h4.imp id fun e => by omega)
    unfold OwnS
    rw [← strsV_push, List.length_append]
    exact h2

theorem new0 (W : World) (l : ByteArray) (T : TypeId) : (W.alloc (.cells #[.string l] T)).cell? ⟨W.heap.size, 0, none⟩ = some (.string l) := World.cell?_alloc_mark W _ _ (0, 0) 0
theorem new1 (W : World) (l : ByteArray) (T : TypeId) (o : Obj) : ((W.alloc (.cells #[.string l] T)).alloc o).cell? ⟨W.heap.size, 0, none⟩ = some (.string l) := cellL ((Below.refl _ _).alloc (Nat.le_refl _) _) (new0 W l T)
theorem new0s (W : World) (l : ByteArray) (T : TypeId) (o : Obj) : ((W.alloc o).alloc (.cells #[.string l] T)).cell? ⟨W.heap.size + 1, 0, none⟩ = some (.string l) := by
  have := new0 (W.alloc o) l T
  rwa [World.size_alloc] at this
theorem lie8 {w W : World} {r : Option Nat} {g : Nat} (hb : Below w.heap.size w W) (h : r = some g ∨ W.heap.size ≤ g) : r = some g ∨ w.heap.size ≤ g := h.imp id (Nat.le_trans hb.size)
/-- a cell of another block than the row that was appended to -/
theorem cell_far2 {w W w2 : World} {g j : Nat} {r : Option Nat} {x : Value} (hb : Below w.heap.size w W) (hg : W.grownBy w2 r) (hne : some g ≠ r) (h : w.cell? ⟨g, j, none⟩ = some x) : w2.cell? ⟨g, j, none⟩ = some x := by
  have hlt : g < w.heap.size := World.block_lt_of_cell? w _ h
  rw [← cellL hb h]
  unfold World.cell?
  rw [hg.block g (Nat.lt_of_lt_of_le hlt hb.size) hne]
theorem cell_new2 {W w2 : World} {b : Nat} {r : Option Nat} {x : Value} (hg : W.grownBy w2 r) (hne : some b ≠ r) (h : W.cell? ⟨b, 0, none⟩ = some x) : w2.cell? ⟨b, 0, none⟩ = some x := by
  have hlt : b < W.heap.size := World.block_lt_of_cell? W _ h
  rw [← h]
  unfold World.cell?
  rw [hg.block b hlt hne]
/-- all blocks that were there are as they were, but two -/
def Kp (w w' : World) (r1 r2 : Option Nat) : Prop := w'.os = w.os ∧ w'.tape = w.tape ∧ w'.output = w.output ∧ w.heap.size ≤ w'.heap.size ∧ ∀ k, k < w.heap.size → some k ≠ r1 → some k ≠ r2 → w'.heap[k]? = w.heap[k]?
theorem Kp.symm {w w' : World} {r1 r2 : Option Nat} (h : Kp w w' r1 r2) : Kp w w' r2 r1 := ⟨h.1, h.2.1, h.2.2.1, h.2.2.2.1, fun k hk h1 h2 => h.2.2.2.2 k hk h2 h1⟩
theorem kp_of {w W1 w2 W2 w3 : World} {r1 r2 : Option Nat} (h1 : Below w.heap.size w W1) (g1 : W1.grownBy w2 r1) (h2 : Below w2.heap.size w2 W2) (g2 : W2.grownBy w3 r2) : Kp w w3 r1 r2 := by
  have s1 := h1.size
  have s2 := g1.size
  have s3 := h2.size
  have s4 := g2.size
  refine ⟨by rw [g2.os, h2.os, g1.os, h1.os], by rw [g2.tape, h2.tape, g1.tape, h1.tape], by rw [g2.output, h2.output, g1.output, h1.output], by omega, fun k hk n1 n2 => ?_⟩
  rw [g2.block k (by omega) n2, h2.block k (by omega), g1.block k (by omega) n1, h1.block k hk]
theorem Kp.below {w w' : World} {r1 r2 : Option Nat} {B : Nat} (h : Kp w w' r1 r2) (hB : B ≤ w.heap.size) (h1 : ∀ k, r1 = some k → B ≤ k) (h2 : ∀ k, r2 = some k → B ≤ k) : Below B w w' :=
  ⟨h.1, h.2.1, h.2.2.1, h.2.2.2.1, fun k hk => h.2.2.2.2 k (by omega) (fun e => by have := h1 k e.symm; omega) (fun e => by have := h2 k e.symm; omega)⟩
/-- the owned block of a row of one type is none of a row of another type -/
theorem own_apart {w : World} {b b' : Nat} {v v' : Value} {qs : List DefAt} {ss : List ByteArray} (h : OwnD 61 w b v qs) (h' : OwnS 9 w b' v' ss) : v.ownBlock = none ∨ v.ownBlock ≠ v'.ownBlock := by
  have k : w.ownsRow b 61 3 v qs.length (defsV qs) := h
  have k' : w.ownsRow b' 9 1 v' ss.length (strsV ss) := h'
  rcases k.2 with ⟨rfl, _⟩ | ⟨g, cap, cur, rfl, _, hg, _⟩
  · exact .inl rfl
  · refine .inr fun e => ?_
    rcases k'.2 with ⟨rfl, _⟩ | ⟨g', cap', cur', rfl, _, hg', _⟩
    · cases e
    · have : g = g' := by simpa [Value.ownBlock] using e
      subst this
      rw [hg] at hg'
      simp at hg'
theorem Kp.ownD {w w' : World} {r1 r2 : Option Nat} {b : Nat} {v : Value} {qs : List DefAt} (h : Kp w w' r1 r2) (ho : OwnD 61 w b v qs) (h1 : v.ownBlock = none ∨ v.ownBlock ≠ r1) (h2 : v.ownBlock = none ∨ v.ownBlock ≠ r2) : OwnD 61 w' b v qs := by
  have k : w.ownsRow b 61 3 v qs.length (defsV qs) := ho
  obtain ⟨k1, k2⟩ := k
  refine ⟨k1, ?_⟩
  rcases k2 with k2 | ⟨g, cap, cur, rfl, hb, hg, r⟩
  · exact .inl k2
  · have n1 : some g ≠ r1 := by rcases h1 with h1 | h1; · cases h1
                                · exact h1
    have n2 : some g ≠ r2 := by rcases h2 with h2 | h2; · cases h2
                                · exact h2
    exact .inr ⟨g, cap, cur, rfl, hb, (h.2.2.2.2 g (lt_of_block hg) n1 n2).trans hg, r⟩
theorem Kp.blk {w w' : World} {r1 r2 : Option Nat} {g : Nat} {t : TypeId} {cs : Array Value} (h : Kp w w' r1 r2) (hb : Blk w g t cs) (h1 : some g ≠ r1) (h2 : some g ≠ r2) : Blk w' g t cs := (h.2.2.2.2 g hb.lt h1 h2).trans hb
theorem Kp.done {w w' : World} {r1 r2 : Option Nat} {lo : Nat} {q : DefAt} (h : Kp w w' r1 r2) (hlo : lo ≤ w.heap.size) (h1 : ∀ k, r1 = some k → lo ≤ k) (h2 : ∀ k, r2 = some k → lo ≤ k) (hd : DoneAt w lo q) : DoneAt w' lo q := by
  obtain ⟨⟨⟨a1, a2, a3⟩, t1, t2⟩, p1, p2⟩ := hd
  have k1 : ∀ b o s, q.ka = some ⟨b, o, s⟩ → w'.heap[b]? = w.heap[b]? := fun b o s e => by
    have := p1 b o s e
    exact h.2.2.2.2 b (by omega) (fun e => by have := h1 b e.symm; omega) (fun e => by have := h2 b e.symm; omega)
  have k2 : ∀ b o s, q.va = some ⟨b, o, s⟩ → w'.heap[b]? = w.heap[b]? := fun b o s e => by
    have := p2 b o s e
    exact h.2.2.2.2 b (by omega) (fun e => by have := h1 b e.symm; omega) (fun e => by have := h2 b e.symm; omega)
  exact ⟨⟨⟨strs_kept a1 h.2.2.2.1 k1, strs_kept a2 h.2.2.2.1 k2, a3⟩, tx_kept t1 k1, tx_kept t2 k2⟩, p1, p2⟩

theorem Kp.frozen {w w' : World} {r1 r2 : Option Nat} {g : Nat} (h : Kp w w' r1 r2) (hlt : g < w.heap.size) (h1 : some g ≠ r1) (h2 : some g ≠ r2) (hf : ∀ j, w.frozen? ⟨g, j, none⟩ = false) (j : Nat) : w'.frozen? ⟨g, j, none⟩ = false := by
  rw [← hf j]
  unfold World.frozen?
  rw [h.2.2.2.2 g hlt h1 h2]
theorem cell_other {w : World} {g i j : Nat} {x : Value} (h : w.cell? ⟨g, i, none⟩ = some x) (hne : i ≠ j) (u : Value) : (w.setCell ⟨g, j, none⟩ u).cell? ⟨g, i, none⟩ = some x := by
  have hlt : g < w.heap.size := World.block_lt_of_cell? w _ h
  rw [← h]
  unfold World.cell? World.setCell
  rw [Array.getElem?_modify]
  simp only [if_true]
  cases hg : w.heap[g]? with
  | none => rfl
  | some o =>
    cases o with
    | cells cs t fr => simp [Ne.symm hne]
    | _ => rfl
/-- a store into a row of the call's own -/
theorem own_set {w : World} {base e size n c g : Nat} {xs : List Value} (h : w.ownsRow base e size (.slice (some ⟨g, 0, none⟩) n c) n xs) (j : Nat) (u : Value) : (w.setCell ⟨g, j, none⟩ u).ownsRow base e size (.slice (some ⟨g, 0, none⟩) n c) n (xs.set j u) := by
  obtain ⟨h1, h2⟩ := h
  refine ⟨by rw [List.length_set]; exact h1, ?_⟩
  rcases h2 with ⟨e1, _⟩ | ⟨g', cap, cur, e1, hb, hg, hn, hm, hcs, ht⟩
  · cases e1
  · simp only [Value.slice.injEq, Option.some.injEq, Addr.mk.injEq] at e1
    obtain ⟨⟨rfl, _⟩, _, rfl⟩ := e1
    have hlt := lt_of_block hg
    refine .inr ⟨g, c, cur.setIfInBounds j u, rfl, hb, ?_, hn, hm, by simpa using hcs, ?_⟩
    · have hg' : w.heap[g] = .cells cur e (0, 0) := by simpa [Array.getElem?_eq_getElem hlt] using hg
      show (w.heap.modify g _)[g]? = _
      rw [Array.getElem?_eq_getElem (by simpa using hlt), Array.getElem_modify_self, hg']
      rfl
    · rw [Array.toList_setIfInBounds, List.take_set, ht]
theorem defsV_app (a b : List DefAt) : defsV (a ++ b) = defsV a ++ defsV b := by simp [defsV]
/-- the last block's keys and values are others -/
theorem OwnD.setLast {T : TypeId} {w : World} {base c g : Nat} {init : List DefAt} {q r : DefAt} (h : OwnD T w base (.slice (some ⟨g, 0, none⟩) (init.length + 1) c) (init ++ [q])) (hk : r.d.kind = q.d.kind) :
    OwnD T ((w.setCell ⟨g, init.length * 3 + 1, none⟩ (.slice r.ka r.d.keys.length r.kc)).setCell ⟨g, init.length * 3 + 2, none⟩ (.slice r.va r.d.vals.length r.vc)) base (.slice (some ⟨g, 0, none⟩) (init.length + 1) c) (init ++ [r]) := by
  have h' : w.ownsRow base T 3 (.slice (some ⟨g, 0, none⟩) (init.length + 1) c) (init.length + 1) (defsV (init ++ [q])) := by
    have := h
    unfold OwnD at this
    rwa [List.length_append, List.length_singleton] at this
  have h2 := own_set (own_set h' (init.length * 3 + 1) (.slice r.ka r.d.keys.length r.kc)) (init.length * 3 + 2) (.slice r.va r.d.vals.length r.vc)
  have e : ((defsV (init ++ [q])).set (init.length * 3 + 1) (.slice r.ka r.d.keys.length r.kc)).set (init.length * 3 + 2) (.slice r.va r.d.vals.length r.vc) = defsV (init ++ [r]) := by
    have hl := defsV_len init
    rw [defsV_app, defsV_app, List.set_append_right _ _ (by omega), List.set_append_right _ _ (by omega), hl]
    congr 1
    rw [show init.length * 3 + 1 - init.length * 3 = 1 by omega, show init.length * 3 + 2 - init.length * 3 = 2 by omega]
    simp [defsV, hk]
  rw [e] at h2
  unfold OwnD
  rw [List.length_append, List.length_singleton]
  exact h2

/-- what the reader is when a key has been put behind the others -/
theorem rds_grow {w w3 : World} {rb B lo g c : Nat} {f : Value} {init : List DefAt} {q r : DefAt} {r1 r2 : Option Nat}
    (hrb : rb < B) (hblk : Blk w rb 53 #[.slice (some ⟨g, 0, none⟩) (init.length + 1) c, f]) (hown : OwnD 61 w B (.slice (some ⟨g, 0, none⟩) (init.length + 1) c) (init ++ [q])) (hl1 : B ≤ lo) (hl2 : lo ≤ w.heap.size) (hrows : RowsAt w lo (init ++ [q]))
    (e1 : (Value.slice q.ka q.d.keys.length q.kc).ownBlock = r1) (e2 : (Value.slice q.va q.d.vals.length q.vc).ownBlock = r2)
    (hkp : Kp w w3 r1 r2) (hk : r.d.kind = q.d.kind) (hro : OpenAt w3 lo r) :
    RdS ((w3.setCell ⟨g, init.length * 3 + 1, none⟩ (.slice r.ka r.d.keys.length r.kc)).setCell ⟨g, init.length * 3 + 2, none⟩ (.slice r.va r.d.vals.length r.vc)) rb B f ((init ++ [r]).map (·.d)) ∧
    Fr rb B w ((w3.setCell ⟨g, init.length * 3 + 1, none⟩ (.slice r.ka r.d.keys.length r.kc)).setCell ⟨g, init.length * 3 + 2, none⟩ (.slice r.va r.d.vals.length r.vc)) := by
  have hq := hrows.2 q (by simp)
  have b1 : ∀ k, r1 = some k → lo ≤ k := fun k e => (World.ownsRow.lt hq.1 k (by rw [e1, e])).1
  have b2 : ∀ k, r2 = some k → lo ≤ k := fun k e => (World.ownsRow.lt hq.2.1 k (by rw [e2, e])).1
  have n1 := own_apart hown hq.1
  have n2 := own_apart hown hq.2.1
  rw [e1] at n1
  rw [e2] at n2
  have hown3 := (hkp.ownD hown n1 n2).setLast (r := r) hk
  have hblk3 := hkp.blk hblk (fun e => by have := b1 rb e.symm; omega) (fun e => by have := b2 rb e.symm; omega)
  have hgb : B ≤ g := (World.ownsRow.lt hown g rfl).1
  have hgne : rb ≠ g := by omega
  have hz := hkp.2.2.2.1
  -- the row of blocks is none of the rows of texts
  have htag : ∃ cur, w3.heap[g]? = some (.cells cur 61 (0, 0)) := by
    have k : w3.ownsRow B 61 3 (.slice (some ⟨g, 0, none⟩) (init.length + 1) c) (init ++ [q]).length (defsV (init ++ [q])) := hkp.ownD hown n1 n2
    rcases k.2 with ⟨e, _⟩ | ⟨g', cap, cur, e, _, hg, _⟩
    · cases e
    · simp only [Value.slice.injEq, Option.some.injEq, Addr.mk.injEq] at e
      obtain ⟨⟨rfl, _⟩, _⟩ := e
      exact ⟨cur, hg⟩
  obtain ⟨cur, hcur⟩ := htag
  have htx : ∀ {a : Option Addr}, InTx w3 a → ∀ b o s, a = some ⟨b, o, s⟩ → b ≠ g := fun {a} h b o s e => by
    obtain ⟨cs, fr, hc⟩ := h b o s e
    rintro rfl
    rw [hcur] at hc
    simp at hc
  have hsame : ∀ b, b ≠ g → ((w3.setCell ⟨g, init.length * 3 + 1, none⟩ (.slice r.ka r.d.keys.length r.kc)).setCell ⟨g, init.length * 3 + 2, none⟩ (.slice r.va r.d.vals.length r.vc)).heap[b]? = w3.heap[b]? := fun b hb =>
    (Below.heap_setCell _ _ _ b hb).trans (Below.heap_setCell _ _ _ b hb)
  have hsz : ((w3.setCell ⟨g, init.length * 3 + 1, none⟩ (.slice r.ka r.d.keys.length r.kc)).setCell ⟨g, init.length * 3 + 2, none⟩ (.slice r.va r.d.vals.length r.vc)).heap.size = w3.heap.size := by simp [World.setCell]
  refine ⟨⟨_, init ++ [r], lo, rfl, (hsame rb hgne).trans hblk3, hrb, hown3, hl1, by omega, ?_, ?_⟩, ?_⟩
  · intro x hx
    rw [List.dropLast_concat] at hx
    have hd := hkp.done hl2 b1 b2 (hrows.1 x (by rw [List.dropLast_concat]; exact hx))
    obtain ⟨⟨⟨a1, a2, a3⟩, t1, t2⟩, p1, p2⟩ := hd
    have k1 := fun b o s e => hsame b (htx t1 b o s e)
    have k2 := fun b o s e => hsame b (htx t2 b o s e)
    exact ⟨⟨⟨strs_kept a1 (by omega) k1, strs_kept a2 (by omega) k2, a3⟩, tx_kept t1 k1, tx_kept t2 k2⟩, p1, p2⟩
  · intro x hx
    rw [List.getLast?_concat] at hx
    obtain rfl := Option.some.inj hx
    have o1 := own_apart (hkp.ownD hown n1 n2) hro.1
    have o2 := own_apart (hkp.ownD hown n1 n2) hro.2.1
    have m1 : some g ≠ (Value.slice r.ka r.d.keys.length r.kc).ownBlock := by
      rcases o1 with o1 | o1
      · cases o1
      · exact o1
    have m2 : some g ≠ (Value.slice r.va r.d.vals.length r.vc).ownBlock := by
      rcases o2 with o2 | o2
      · cases o2
      · exact o2
    have st : ∀ {W : World} {v : Value} {ss : List ByteArray} (j : Nat) (u : Value), OwnS 9 W lo v ss → some g ≠ v.ownBlock → OwnS 9 (W.setCell ⟨g, j, none⟩ u) lo v ss := fun {W v ss} j u h hne =>
      World.ownsRow.kept h (grown_setCell W g j u) (.inr fun e => hne e.symm)
    exact ⟨st _ _ (st _ _ hro.1 m1) m1, st _ _ (st _ _ hro.2.1 m2) m2, hro.2.2⟩
  · exact ⟨hkp.1, hkp.2.1, hkp.2.2.1, by rw [hsz]; exact hz, fun k hk _ => (hsame k (by omega)).trans (hkp.2.2.2.2 k (by omega) (fun e => by have := b1 k e.symm; omega) (fun e => by have := b2 k e.symm; omega))⟩
theorem apart2 {w2 W2 : World} {g1 g2 : Nat} {r : Option Nat} (h1 : some g1 = none ∨ some g1 ≠ r) (hl : r = some g2 ∨ W2.heap.size ≤ g2) (hg1 : g1 < w2.heap.size) (hb : Below w2.heap.size w2 W2) : g1 ≠ g2 := by
  rintro rfl
  rcases hl with hl | hl
  · rcases h1 with h1 | h1
    · cases h1
    · exact h1 hl.symm
  · have := hb.size; omega
/-- two stores into two cells of one block, in either order -/
theorem setCell_swap (w : World) (g i j : Nat) (hne : i ≠ j) (u v : Value) : (w.setCell ⟨g, i, none⟩ u).setCell ⟨g, j, none⟩ v = (w.setCell ⟨g, j, none⟩ v).setCell ⟨g, i, none⟩ u := by
  unfold World.setCell
  congr 1
  apply Array.ext_getElem?
  intro k
  simp only [Array.getElem?_modify]
  split
  · cases w.heap[k]? with
    | none => rfl
    | some o =>
      cases o with
      | cells cs t fr => simp [Array.setIfInBounds_comm _ _ hne]
      | _ => rfl
  · rfl
/-- what is shown behind the two appends and the two stores -/
theorem grow_post {w W8 w3 : World} {rb B lo g c i gK cK gV cV : Nat} {f : Value} {init : List DefAt} {q : DefAt} {ds : List Dfn} {K V : ByteArray} {r1 r2 : Option Nat}
    (hb8 : Below w.heap.size w W8) (hBw : B ≤ w.heap.size) (hi : init.length = i)
    (hrb : rb < B) (hblk : Blk W8 rb 53 #[.slice (some ⟨g, 0, none⟩) (init.length + 1) c, f]) (hown : OwnD 61 W8 B (.slice (some ⟨g, 0, none⟩) (init.length + 1) c) (init ++ [q])) (hl1 : B ≤ lo) (hl2 : lo ≤ W8.heap.size) (hrows : RowsAt W8 lo (init ++ [q]))
    (e1 : (Value.slice q.ka q.d.keys.length q.kc).ownBlock = r1) (e2 : (Value.slice q.va q.d.vals.length q.vc).ownBlock = r2)
    (hkp : Kp W8 w3 r1 r2) (hK : OwnS 9 w3 lo (.slice (some ⟨gK, 0, none⟩) (q.d.keys.length + 1) cK) (q.d.keys ++ [K])) (hV : OwnS 9 w3 lo (.slice (some ⟨gV, 0, none⟩) (q.d.vals.length + 1) cV) (q.d.vals ++ [V])) (hne : gK ≠ gV)
    (hKs : K.size ≤ maxLen) (hVs : V.size ≤ maxLen) (hds : (init.map (·.d)) ++ [⟨q.d.kind, q.d.keys ++ [K], q.d.vals ++ [V]⟩] = ds) :
    LookP rb B withV ds w (.returned withV) ((w3.setCell ⟨g, i * 3 + 1, none⟩ (.slice (some ⟨gK, 0, none⟩) (q.d.keys.length + 1) cK)).setCell ⟨g, i * 3 + 2, none⟩ (.slice (some ⟨gV, 0, none⟩) (q.d.vals.length + 1) cV)) := by
  subst hi
  have hop := hrows.2 q (by simp)
  have hro : OpenAt w3 lo ⟨⟨q.d.kind, q.d.keys ++ [K], q.d.vals ++ [V]⟩, some ⟨gK, 0, none⟩, cK, some ⟨gV, 0, none⟩, cV⟩ := by
    refine ⟨by simpa using hK, by simpa using hV, .inr (fun e => hne (by simpa [Value.ownBlock] using e)), fun s hs => ?_, fun s hs => ?_, hop.2.2.2.2.2⟩
    · simp only [List.mem_append, List.mem_singleton] at hs
      rcases hs with hs | rfl
      · exact hop.2.2.2.1 s hs
      · exact hKs
    · simp only [List.mem_append, List.mem_singleton] at hs
      rcases hs with hs | rfl
      · exact hop.2.2.2.2.1 s hs
      · exact hVs
  obtain ⟨h1, h2⟩ := rds_grow (r := ⟨⟨q.d.kind, q.d.keys ++ [K], q.d.vals ++ [V]⟩, some ⟨gK, 0, none⟩, cK, some ⟨gV, 0, none⟩, cV⟩) hrb hblk hown hl1 hl2 hrows e1 e2 hkp rfl hro
  simp only [List.length_append, List.length_singleton, List.map_append, List.map_singleton, hds] at h1 h2
  exact ⟨f, rfl, h1, (Fr.of hb8 hBw).trans h2⟩
end Go.Proofs.YtekcmgajjbdmgabDoor
