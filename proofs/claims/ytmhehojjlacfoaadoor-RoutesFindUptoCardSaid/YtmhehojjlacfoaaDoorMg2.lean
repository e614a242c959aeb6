/- Blocks in memory: a block's value, a slice of blocks that came in, one of the call's own that is appended to. -/
import Derived.Test.YtmhehojjlacfoaaDoorBlkA
import Derived.Test.YtmhehojjlacfoaaDoorSlcS
import Derived.Deep.QuietTactic
import Derived.BigQuiet
import Derived.Test.YtmhehojjlacfoaaDoorOwnS
import Derived.Laws.Rows
import Derived.Laws.Tables
import Derived.Outline
import Derived.Test.YtmhehojjlacfoaaDoorLabC
import Derived.Test.YtmhehojjlacfoaaDoorOwn
import Derived.Deep.RegionHeld3
namespace Go.Proofs.YtmhehojjlacfoaaDoor
open Go.RowKit

/-- a block with the places of its keys and values -/
structure DefAt where
  d : Dfn
  ka : Option Addr
  kc : Nat
  va : Option Addr
  vc : Nat
abbrev dCells (q : DefAt) : Array Value := #[.string q.d.kind, .slice q.ka q.d.keys.length q.kc, .slice q.va q.d.vals.length q.vc]
/-- its keys and values lie there -/
def DefAt.ok (w : World) (q : DefAt) : Prop := HasStrs w q.ka q.kc q.d.keys ∧ HasStrs w q.va q.vc q.d.vals ∧ q.d.kind.size ≤ maxLen
theorem DefAt.ok.call {w w1 : World} {q : DefAt} (h : q.ok w) (hb : Below w.heap.size w w1) : q.ok w1 := ⟨h.1.call hb, h.2.1.call hb, h.2.2⟩
/-- the value v is a block -/
def HasDef (w : World) (v : Value) (d : Dfn) : Prop := ∃ q : DefAt, q.d = d ∧ v = .agg (dCells q) ∧ q.ok w
/-- the slice '.slice a ds.length c' reads as the blocks ds -/
def HasDefs (w : World) (a : Option Addr) (c : Nat) (ds : List Dfn) : Prop :=
  ds.length ≤ c ∧ c ≤ maxLen ∧
    (ds = [] ∨ ∃ b off, a = some ⟨b, off, none⟩ ∧ b < w.heap.size ∧ ∀ i (h : i < ds.length), ∃ q : DefAt, q.d = ds[i] ∧
      (w.cell? ⟨b, off + i * 3, none⟩ = some (.string q.d.kind) ∧ w.cell? ⟨b, off + i * 3 + 1, none⟩ = some (.slice q.ka q.d.keys.length q.kc) ∧ w.cell? ⟨b, off + i * 3 + 2, none⟩ = some (.slice q.va q.d.vals.length q.vc)) ∧ q.ok w)
theorem HasDefs.call {w w' : World} {a : Option Addr} {c : Nat} {ds : List Dfn} (h : HasDefs w a c ds) (hb : Below w.heap.size w w') : HasDefs w' a c ds := by
  obtain ⟨h1, h2, h4⟩ := h
  refine ⟨h1, h2, ?_⟩
  rcases h4 with h4 | ⟨b, off, rfl, hlt, hc⟩
  · exact .inl h4
  · refine .inr ⟨b, off, rfl, Nat.lt_of_lt_of_le hlt hb.size, fun i hi => ?_⟩
    obtain ⟨q, e, ⟨g0, g1, g2⟩, g3⟩ := hc i hi
    exact ⟨q, e, ⟨cellL hb g0, cellL hb g1, cellL hb g2⟩, g3.call hb⟩
theorem HasDefs.nil (w : World) (a : Option Addr) (c : Nat) (hc : c ≤ maxLen) : HasDefs w a c [] := ⟨Nat.zero_le _, hc, .inl rfl⟩
theorem HasDefs.at {w : World} {b off c : Nat} {ds : List Dfn} (h : HasDefs w (some ⟨b, off, none⟩) c ds) (i : Nat) (hi : i < ds.length) : ∃ q : DefAt, q.d = ds[i] ∧
      (w.cell? ⟨b, off + i * 3, none⟩ = some (.string q.d.kind) ∧ w.cell? ⟨b, off + i * 3 + 1, none⟩ = some (.slice q.ka q.d.keys.length q.kc) ∧ w.cell? ⟨b, off + i * 3 + 2, none⟩ = some (.slice q.va q.d.vals.length q.vc)) ∧ q.ok w := by
  rcases h.2.2 with h4 | ⟨b', o', e, _, hc⟩
  · subst h4; simp at hi
  · cases e; exact hc i hi
theorem HasDefs.place {w : World} {a : Option Addr} {c : Nat} {ds : List Dfn} (h : HasDefs w a c ds) : ds = [] ∨ ∃ b off, a = some ⟨b, off, none⟩ := by
  rcases h.2.2 with h4 | ⟨b, off, e, _⟩
  · exact .inl h4
  · exact .inr ⟨b, off, e⟩
/-- the first blocks of a row -/
theorem HasDefs.take {w : World} {a : Option Addr} {c : Nat} {ds : List Dfn} (h : HasDefs w a c ds) (k : Nat) : HasDefs w a c (ds.take k) := by
  obtain ⟨h1, h2, h4⟩ := h
  refine ⟨by rw [List.length_take]; omega, h2, ?_⟩
  rcases h4 with h4 | ⟨b, off, rfl, hlt, hc⟩
  · exact .inl (by rw [h4]; simp)
  · refine .inr ⟨b, off, rfl, hlt, fun i hi => ?_⟩
    have hi' : i < ds.length := by rw [List.length_take] at hi; omega
    obtain ⟨q, e, r⟩ := hc i hi'
    exact ⟨q, by rw [e]; simp, r⟩
theorem HasStrs.at {w : World} {b off c : Nat} {ss : List ByteArray} (h : HasStrs w (some ⟨b, off, none⟩) c ss) (i : Nat) (hi : i < ss.length) : w.cell? ⟨b, off + i, none⟩ = some (.string ss[i]) := by
  rcases h.2.2.2 with h4 | ⟨b', o', e, _, hc⟩
  · subst h4; simp at hi
  · cases e; exact hc i hi
theorem HasStrs.takeN {w : World} {a : Option Addr} {c : Nat} {ss : List ByteArray} (h : HasStrs w a c ss) (k : Nat) : HasStrs w a c (ss.take k) := by
  obtain ⟨h1, h2, h3, h4⟩ := h
  refine ⟨by rw [List.length_take]; omega, h2, fun s hs => h3 s (List.mem_of_mem_take hs), ?_⟩
  rcases h4 with rfl | ⟨b, off, rfl, hb, hc⟩
  · exact .inl (by simp)
  · refine .inr ⟨b, off, rfl, hb, fun i hi => ?_⟩
    have hi' : i < ss.length := by rw [List.length_take] at hi; omega
    rw [hc i hi']; simp

/-- the cells of blocks -/
def defsV (qs : List DefAt) : List Value := qs.flatMap fun q => (dCells q).toList
theorem defsV_cons (l : DefAt) (qs : List DefAt) : defsV (l :: qs) = .string l.d.kind :: .slice l.ka l.d.keys.length l.kc :: .slice l.va l.d.vals.length l.vc :: defsV qs := rfl
theorem defsV_len (qs : List DefAt) : (defsV qs).length = qs.length * 3 := by
  induction qs with
  | nil => rfl
  | cons l qs ih => rw [defsV_cons, List.length_cons, List.length_cons, List.length_cons, ih, List.length_cons]; omega
theorem defsV_push (qs : List DefAt) (q : DefAt) : defsV qs ++ [.string q.d.kind, .slice q.ka q.d.keys.length q.kc, .slice q.va q.d.vals.length q.vc] = defsV (qs ++ [q]) := by simp [defsV]
theorem defsV_get : ∀ (qs : List DefAt) (i : Nat) (h : i < qs.length), (defsV qs)[i * 3]? = some (.string qs[i].d.kind) ∧ (defsV qs)[i * 3 + 1]? = some (.slice qs[i].ka qs[i].d.keys.length qs[i].kc) ∧ (defsV qs)[i * 3 + 2]? = some (.slice qs[i].va qs[i].d.vals.length qs[i].vc)
  | l :: qs, 0, _ => ⟨rfl, rfl, rfl⟩
  | l :: qs, i + 1, h => by
    have ih := defsV_get qs i (by simpa using h)
    rw [defsV_cons, show (i + 1) * 3 = i * 3 + 1 + 1 + 1 by omega]
    simp only [List.getElem?_cons_succ]
    exact ih
/-- v is the call's own slice of the blocks qs -/
def OwnD (T : TypeId) (w : World) (base : Nat) (v : Value) (qs : List DefAt) : Prop := w.ownsRow base T 3 v qs.length (defsV qs)
theorem OwnD.call {T : TypeId} {w w1 : World} {base : Nat} {v : Value} {qs : List DefAt} (h : OwnD T w base v qs) (hb : Below w.heap.size w w1) : OwnD T w1 base v qs :=
  World.ownsRow.kept h (row := none) ⟨hb.os, hb.tape, hb.output, hb.size, fun k hk _ => hb.block k hk⟩ (by cases v.ownBlock <;> simp)
theorem OwnD.alloc {T : TypeId} {w : World} {base : Nat} {v : Value} {qs : List DefAt} (h : OwnD T w base v qs) (o : Obj) : OwnD T (w.alloc o) base v qs := World.ownsRow.alloc h o
theorem OwnD.drew {T : TypeId} {w : World} {base : Nat} {v : Value} {qs : List DefAt} (h : OwnD T w base v qs) : OwnD T w.drew base v qs := h
theorem OwnD.nil (T : TypeId) (w : World) (base : Nat) : OwnD T w base (.slice none 0 0) [] := World.ownsRow_nil _ _ _ _
theorem OwnD.grown {T : TypeId} {w w1 : World} {base : Nat} {v : Value} {qs : List DefAt} (h : OwnD T w base v qs) {w0 : World} {B : Nat} (hb : Below B w0 w) (hB : B ≤ base) (hz : B ≤ w.heap.size) (hg : w.grownBy w1 v.ownBlock) : Below B w0 w1 :=
  hb.grown hg hz (fun k hk => Nat.le_trans hB (World.ownsRow.lt h k hk).1)
theorem OwnD.ne {T : TypeId} {w : World} {base : Nat} {v : Value} {qs : List DefAt} (h : OwnD T w base v qs) {g : Nat} (hg : g < base) : some g ≠ v.ownBlock := fun e => by have := (World.ownsRow.lt h _ e.symm).1; omega
/-- a store into another block, below or not -/
theorem OwnD.setO {T : TypeId} {w : World} {base : Nat} {v : Value} {qs : List DefAt} (h : OwnD T w base v qs) {g : Nat} (hg : some g ≠ v.ownBlock) (i : Nat) (u : Value) : OwnD T (w.setCell ⟨g, i, none⟩ u) base v qs :=
  World.ownsRow.kept h (grown_setCell w g i u) (.inr fun e => hg e.symm)
theorem OwnD.defs {T : TypeId} {w : World} {base : Nat} {v : Value} {qs : List DefAt} (h : OwnD T w base v qs) (hs : ∀ q ∈ qs, q.ok w) : ∃ a c, v = .slice a qs.length c ∧ HasDefs w a c (qs.map (·.d)) := by
  have h' : w.ownsRow base T 3 v qs.length (defsV qs) := h
  rcases h'.2 with ⟨rfl, h0⟩ | ⟨g, cap, cur, rfl, hb, hg, hn, hm, hcs, ht⟩
  · obtain rfl : qs = [] := List.eq_nil_of_length_eq_zero h0
    exact ⟨none, 0, rfl, HasDefs.nil _ _ _ (by unfold maxLen; omega)⟩
  · have hl : (defsV qs).length = qs.length * 3 := defsV_len qs
    refine ⟨some ⟨g, 0, none⟩, cap, rfl, by simpa using hn, hm, .inr ⟨g, 0, rfl, lt_of_block hg, fun i hi => ?_⟩⟩
    have hi' : i < qs.length := by simpa using hi
    obtain ⟨g1, g2, g3⟩ := defsV_get qs i hi'
    refine ⟨qs[i], by simp, ⟨?_, ?_, ?_⟩, hs _ (List.getElem_mem hi')⟩
    · rw [Nat.zero_add, h'.cellAt (i * 3) (by omega), g1]
    · rw [Nat.zero_add, h'.cellAt (i * 3 + 1) (by omega), g2]
    · rw [Nat.zero_add, h'.cellAt (i * 3 + 2) (by omega), g3]

/-- an append of one block, which has just been laid in a block of memory of its own -/
theorem wpList_pushD {P : Program} (W : World) {ops : Array Oper} {rest : List Oper} {o : Oper} {a : Act} {Q : Exit → Act → World → Prop} (hgd : o.guard = none) (s x : Operand) (t : TypeId)
    (ho : o.op = .call { callee := .builtin .append, args := #[s, x], argTypes := #[t, t] })
    (base : Nat) (e : TypeId) (i : TypeInfo) (z : Value) (ht : P.underlying t = some (.slice e)) (hi : P.info? e = some i) (hz : i.zero = some z)
    (hsize : i.size = 3) (hby : i.bytes = 64) (hzs : z.cells.size = 3)
    (v : Value) (qs : List DefAt) (hs : a.eval s = v) (hown : OwnD e W base v qs) (q : DefAt)
    (hx : a.eval x = .slice (some ⟨W.heap.size, 0, none⟩) 1 1)
    (h63 : qs.length ≤ 1000000) (hbase : base ≤ W.heap.size)
    (h : ∀ (v' : Value) (w' : World), OwnD e w' base v' (qs ++ [q]) → W.grownBy w' v.ownBlock → wpList P ops Q rest (a.put o.dst v') w') :
    wpList P ops Q (o :: rest) a (W.alloc (.cells (dCells q) e)) := by
  refine wpList_append_own (W.alloc (.cells (dCells q) e)) hgd s x t ho base e i z 3 64 ht hi hz hsize hby hzs (by omega) v qs.length (defsV qs) hs (World.ownsRow.alloc hown _) ⟨W.heap.size, 0, none⟩ 1 1 (dCells q).toList hx rfl ?_ ?_ (by unfold maxLen; omega) (by omega) (by simp; omega) ?_
  · intro j y hy
    have e0 : (⟨W.heap.size, 0, none⟩ : Addr).add j = ⟨W.heap.size, j, none⟩ := by unfold Addr.add; split <;> simp_all
    rw [e0, World.cell?_alloc_mark W (dCells q) e (0, 0) j]
    simpa using hy
  · intro y hy
    simp at hy
    rcases hy with rfl | rfl | rfl <;> rfl
  · intro v' w' hown' hg _
    refine h v' w' ?_ ⟨hg.os, hg.tape, hg.output, ?_, ?_⟩
    · unfold OwnD
      rw [← defsV_push, List.length_append]
      exact hown'
    · have := hg.size; simp at this; omega
    · intro k hk hne
      rw [hg.block k (by simp; omega) hne]
      exact Below.heap_alloc W _ k hk
theorem Tryd.infoD : (Tryd.prog.info? 83).map (fun i => (i.zero, i.size, i.bytes)) = some (some (.agg #[.string ⟨#[]⟩, .slice none 0 0, .slice none 0 0]), 3, 64) := by kernel_rfl
theorem info_partsD {x : Option TypeInfo} (h : x.map (fun i => (i.zero, i.size, i.bytes)) = some (some (.agg #[.string ⟨#[]⟩, .slice none 0 0, .slice none 0 0]), 3, 64)) : ∃ i, x = some i ∧ i.zero = some (.agg #[.string ⟨#[]⟩, .slice none 0 0, .slice none 0 0]) ∧ i.size = 3 ∧ i.bytes = 64 := by
  cases x with
  | none => cases h
  | some i => simp at h; exact ⟨i, rfl, h.1, h.2.1, h.2.2⟩
end Go.Proofs.YtmhehojjlacfoaaDoor
/- The contracts of block.rightBlock and block.Right. -/
namespace Go.Proofs.YtmhehojjlacfoaaDoor
open Go.RowKit

theorem int_neq (a b : Nat) : ((a : Int) != (b : Int)) = !decide (a = b) := by
  by_cases h : a = b
  · rw [h]; simp
  · rw [decide_eq_false h, bne_iff_ne.2 (by omega)]; rfl
theorem mem_sizes {w : World} {a : Option Addr} {c : Nat} {ss : List ByteArray} (h : HasStrs w a c ss) (k : Nat) (hk : k < ss.length) : ss[k].size ≤ maxLen := h.2.2.1 _ (List.getElem_mem hk)
theorem all_endB {α : Type} (p : α → Bool) (l : List α) : ∃ J, J ≤ l.length ∧ (∀ k (_h : k < J) (h2 : k < l.length), p l[k] = true) ∧ (J = l.length ∧ l.all p = true ∨ ∃ hj : J < l.length, p l[J] = false ∧ l.all p = false) := by
  cases h : l.all p with
  | true =>
    rw [List.all_eq_true] at h
    exact ⟨l.length, Nat.le_refl _, fun k _ h2 => h _ (List.getElem_mem h2), .inl ⟨rfl, rfl⟩⟩
  | false =>
    obtain ⟨j, hj, hb, ha⟩ := first_not (fun i => if hi : i < l.length then p l[i] else true) l.length (fun hall => by
      have : l.all p = true := by
        rw [List.all_eq_true]
        intro x hx
        obtain ⟨i, hi, rfl⟩ := List.getElem_of_mem hx
        have := hall i hi
        simpa [hi] using this
      rw [h] at this; cases this)
    refine ⟨j, by omega, fun k hk h2 => ?_, .inr ⟨hj, by simpa [hj] using hb, rfl⟩⟩
    have := ha k hk
    simpa [h2] using this

set_option maxHeartbeats 3200000 in
set_option maxRecDepth 100000 in
theorem bBlock_any (v : Value) (d : Dfn) (w : World) (h : HasDef w v d) : Calls Tryd.prog 79 #[v] w (BoolW (defC d) w) := by
  obtain ⟨q, rfl, rfl, hk, hv, hs⟩ := h
  obtain ⟨d, ka, kc, va, vc⟩ := q
  simp only at hk hv hs ⊢
  have hb := (Below.refl w.heap.size w).alloc (Nat.le_refl _) (.cells #[.string d.kind, .slice ka d.keys.length kc, .slice va d.vals.length vc] 83)
  have hB := Blk.new w 83 #[.string d.kind, .slice ka d.keys.length kc, .slice va d.vals.length vc]
  have hk' := hk.call hb
  have hv' := hv.call hb
  have HW := Lib.hid (fun W => bWord_any d.kind W hs)
  obtain ⟨A, hA⟩ : ∃ A, bwC d.kind.data.toList = A := ⟨_, rfl⟩
  rw [hA] at HW
  have hd : defC d = (A && decide (d.keys.length ≤ 64) && decide (d.keys.length = d.vals.length) && keysC d.keys d.vals) := by rw [defC, hA]
  obtain ⟨R, hR⟩ : ∃ R, defC d = R := ⟨_, rfl⟩
  rw [hR]
  rw [hR] at hd
  have HR := Lib.hid hd
  have hne := int_neq d.keys.length d.vals.length
  have l1 := hk.1
  have l2 := hk.2.1
  have l3 := hv.1
  have l4 := hv.2.1
  unfold maxLen at l2 l4
  go_enter Tryd.func79, Tryd.ntmps79
  go_upto_region 1 with fail
  generalize w.alloc (.cells #[.string d.kind, .slice ka d.keys.length kc, .slice va d.vals.length vc] 83) = wx at *
  obtain ⟨c0, c1, c2⟩ := hB.cells3
  have HBB := Lib.hid hB
  have HK := Lib.hid hk'
  have HV := Lib.hid hv'
  have HB := Lib.hid hb
  clear hd hR hA hk hv hs hb hB hk' hv'
  cases A with
  | false =>
    obtain rfl : R = false := by rw [HR.out]; rfl
    go_wp2_with (go_at_call 89; refine (HW.out _).mono ?_; rintro e w2 ⟨rfl, rfl⟩)
    go_ret
    exact ⟨rfl, HB.out⟩
  | true =>
  by_cases h64 : d.keys.length ≤ 64
  case neg =>
    obtain rfl : R = false := by rw [HR.out, decide_eq_false h64]; rfl
    go_wp2_with (go_at_call 89; refine (HW.out _).mono ?_; rintro e w2 ⟨rfl, rfl⟩)
    go_ret
    exact ⟨rfl, HB.out⟩
  by_cases heq : d.keys.length = d.vals.length
  case neg =>
    obtain rfl : R = false := by rw [HR.out, decide_eq_false heq, Bool.and_false, Bool.false_and]
    rw [decide_eq_false heq] at hne
    simp only [Bool.not_false] at hne
    clear heq
    go_wp2_with (go_at_call 89; refine (HW.out _).mono ?_; rintro e w2 ⟨rfl, rfl⟩)
    go_ret
    exact ⟨rfl, HB.out⟩
  rw [decide_eq_true heq] at hne
  simp only [Bool.not_true] at hne
  have HR2 : Hid (R = keysC d.keys d.vals) := Lib.hid (by rw [HR.out, decide_eq_true heq, decide_eq_true h64]; rfl)
  clear HR
  have HEQ := Lib.hid heq
  clear heq
  go_upto_region 3 with (go_at_call 89; refine (HW.out _).mono ?_; rintro e w2 ⟨rfl, rfl⟩)
  clear hne HW
  obtain ⟨J, hJ, hok, hend⟩ := keys_end d.keys d.vals
  have HOK := Lib.hid hok
  have HE := Lib.hid hend
  clear hok hend
  by_cases hkz : d.keys.length = 0
  · have h0 : keysC d.keys d.vals = true := by
      rw [List.eq_nil_of_length_eq_zero hkz]; rfl
    obtain rfl : R = true := by rw [HR2.out, h0]
    clear h0
    go_wp2_with fail
    refine wp_loop_rounds 1 ?_
    rw [rounds_succ]
    go_wp2_with fail
    go_ret
    exact ⟨rfl, HB.out⟩
  obtain ⟨b1, o1, rfl⟩ : ∃ b off, ka = some ⟨b, off, none⟩ := by
    rcases HK.out.2.2.2 with h | ⟨b, off, h, _⟩
    · exact absurd (by rw [h]; rfl) hkz
    · exact ⟨b, off, h⟩
  obtain ⟨b2, o2, rfl⟩ : ∃ b off, va = some ⟨b, off, none⟩ := by
    rcases HV.out.2.2.2 with h | ⟨b, off, h, _⟩
    · exact absurd (by rw [HEQ.out, h]; rfl) hkz
    · exact ⟨b, off, h⟩
  clear hkz
  go_wp2_with fail
  go_loop [27, 3, 4] (fun i _ _ => ∃ k : Nat, k ≤ J ∧ i = .int .i64 k) (fun i _ _ => d.keys.length - (intOf i).toNat)
  case atStart => exact ⟨0, Nat.zero_le _, rfl⟩
  case round =>
    obtain ⟨k, hkJ, rfl⟩ := hrel
    by_cases hkl : k < d.keys.length
    · have hkv : k < d.vals.length := by have := HEQ.out; omega
      have e1 := HK.out.at k hkl
      have e2 := HV.out.at k hkv
      have hm1 := mem_sizes HK.out k hkl
      have hm2 := mem_sizes HV.out k hkv
      have hcon := contains_any _ _ _ d.keys[k] wx (HK.out.takeN k)
      have hlt : (d.keys.take k).length = k := by rw [List.length_take]; omega
      rw [hlt] at hcon
      have ho := okD_at d.keys d.vals k hkl hkv
      obtain ⟨X, hX⟩ : ∃ X, d.keys[k] = X := ⟨_, rfl⟩
      obtain ⟨Y, hY⟩ : ∃ Y, d.vals[k] = Y := ⟨_, rfl⟩
      rw [hX] at e1 hm1 hcon ho
      rw [hY] at e2 hm2 ho
      have HW := Lib.hid (fun W => bWord_any X W hm1)
      have HV2 := Lib.hid (fun W => bValue_any Y W hm2)
      have HC := Lib.hid hcon
      obtain ⟨A, hA⟩ : ∃ A, bwC X.data.toList = A := ⟨_, rfl⟩
      obtain ⟨M, hM⟩ : ∃ M, memB X (d.keys.take k) = M := ⟨_, rfl⟩
      obtain ⟨V, hV⟩ : ∃ V, bvC Y.data.toList = V := ⟨_, rfl⟩
      rw [hA, hM, hV] at ho
      rw [hA] at HW
      rw [hM] at HC
      rw [hV] at HV2
      clear hm1 hm2 hcon hlt hX hY hA hM hV
      by_cases hkJ2 : k = J
      · have hbad : keysC d.keys d.vals = false ∧ okD d.keys d.vals k = false := by
          rcases HE.out with ⟨he, _⟩ | ⟨_, g1, g2⟩
          · omega
          · subst hkJ2; exact ⟨g2, g1⟩
        rw [hbad.2] at ho
        obtain rfl : R = false := by rw [HR2.out, hbad.1]
        clear hbad hkJ2 hkJ
        have h3 : A = false ∨ A = true ∧ M = true ∨ A = true ∧ M = false ∧ V = false := by revert ho; cases A <;> cases M <;> cases V <;> simp
        clear ho
        rcases h3 with rfl | ⟨rfl, rfl⟩ | ⟨rfl, rfl, rfl⟩
        all_goals
          go_wp2_with (first | (go_at_call 89; refine (HW.out _).mono ?_; rintro e w2 ⟨rfl, rfl⟩) | (go_at_call 57; refine HC.out.mono ?_; rintro e w2 ⟨rfl, rfl⟩) | (go_at_call 90; refine (HV2.out _).mono ?_; rintro e w2 ⟨rfl, rfl⟩))
          go_ret
          exact ⟨rfl, HB.out⟩
      · rw [HOK.out k (by omega)] at ho
        have h3 : A = true ∧ M = false ∧ V = true := by revert ho; cases A <;> cases M <;> cases V <;> simp
        obtain ⟨rfl, rfl, rfl⟩ := h3
        clear ho
        go_wp2_with (first | (go_at_call 89; refine (HW.out _).mono ?_; rintro e w2 ⟨rfl, rfl⟩) | (go_at_call 57; refine HC.out.mono ?_; rintro e w2 ⟨rfl, rfl⟩) | (go_at_call 90; refine (HV2.out _).mono ?_; rintro e w2 ⟨rfl, rfl⟩))
        go_round
        case rel => exact ⟨k + 1, by omega, by go_num⟩
        case measure => simp [intOf]; omega
    · have hR : keysC d.keys d.vals = true := by
        rcases HE.out with ⟨_, hr⟩ | ⟨hj, _, _⟩
        · exact hr
        · omega
      obtain rfl : R = true := by rw [HR2.out, hR]
      clear hR
      go_wp2_with fail
      go_ret
      exact ⟨rfl, HB.out⟩

set_option maxHeartbeats 3200000 in
set_option maxRecDepth 100000 in
theorem bRight_any (a : Option Addr) (c : Nat) (ds : List Dfn) (w : World) (h : HasDefs w a c ds) : Calls Tryd.prog 60 #[.slice a ds.length c] w (BoolW (defsC ds) w) := by
  have h1 := h.1
  have h2 := h.2.1
  unfold maxLen at h2
  by_cases h64 : ds.length ≤ 64
  case neg =>
    have hR : defsC ds = false := by unfold defsC; simp [h64]
    rw [hR]
    clear hR h
    go_enter Tryd.func60, Tryd.ntmps60
    go_wp2
    go_ret
    exact ⟨rfl, Below.refl _ _⟩
  have hR : defsC ds = ds.all defC := by unfold defsC; simp [h64]
  rw [hR]
  obtain ⟨R, hR2⟩ : ∃ R, ds.all defC = R := ⟨_, rfl⟩
  rw [hR2]
  have HR := Lib.hid hR2
  clear hR hR2
  rcases h.place with rfl | ⟨b, off, rfl⟩
  · clear h
    obtain rfl : R = true := by rw [← HR.out]; rfl
    go_enter Tryd.func60, Tryd.ntmps60
    go_wp2
    refine wp_loop_rounds 1 ?_
    rw [rounds_succ]
    go_wp2
    go_ret
    exact ⟨rfl, Below.refl _ _⟩
  obtain ⟨J, hJ, hok, hend⟩ := all_endB defC ds
  have HOK := Lib.hid hok
  have HE := Lib.hid hend
  have HD := Lib.hid h
  clear hok hend h
  go_enter Tryd.func60, Tryd.ntmps60
  go_wp2
  go_loopw [10, 4] (fun i _ wr => ∃ k : Nat, k ≤ J ∧ i = .int .i64 k ∧ Below w.heap.size w wr) (fun i _ _ => ds.length - (intOf i).toNat)
  case atStart => exact ⟨0, Nat.zero_le _, rfl, Below.refl _ _⟩
  case round =>
    obtain ⟨k, hkJ, rfl, hb⟩ := hrel
    by_cases hkl : k < ds.length
    · obtain ⟨q, hq, ⟨c0, c1, c2⟩, hqo⟩ := (HD.out.call hb).at k hkl
      have hx := Blk.new wr 83 (dCells q)
      have hbx := (Below.refl wr.heap.size wr).alloc (Nat.le_refl _) (.cells (dCells q) 83)
      have hcall := bBlock_any (.agg (dCells q)) q.d _ ⟨q, rfl, rfl, hqo.call hbx⟩
      have hall := HOK.out k
      have HBX := Lib.hid (bthen hb hbx)
      obtain ⟨B, hB⟩ : ∃ B, defC q.d = B := ⟨_, rfl⟩
      rw [hB] at hcall
      rw [hq] at hB
      obtain ⟨d, ka, kc, va, vc⟩ := q
      have HC := Lib.hid hcall
      have hcell := hx.cells3
      have HX := Lib.hid hcell
      clear hcall hx hbx hq hqo hcell hb
      simp only at c0 c1 c2
      by_cases hkJ2 : k = J
      · have hbad : B = false ∧ ds.all defC = false := by
          rcases HE.out with ⟨he, _⟩ | ⟨_, g1, g2⟩
          · omega
          · subst hkJ2; exact ⟨by rw [← hB]; exact g1, g2⟩
        obtain ⟨rfl, hr⟩ := hbad
        obtain rfl : R = false := by rw [← HR.out, hr]
        clear hr hB hall hkJ2 hkJ
        go_upto_region 7 with fail
        obtain ⟨x0, x1, x2⟩ := HX.out
        go_wp2_with (go_at_call 79; refine HC.out.mono ?_; rintro e w2 ⟨rfl, hb2⟩)
        go_ret
        exact ⟨rfl, bthen HBX.out hb2⟩
      · have hgood := hall (by omega) hkl
        rw [hB] at hgood
        subst hgood
        clear hB hall
        go_upto_region 7 with fail
        obtain ⟨x0, x1, x2⟩ := HX.out
        go_wp2_with (go_at_call 79; refine HC.out.mono ?_; rintro e w2 ⟨rfl, hb2⟩)
        go_roundw
        case rel => exact ⟨k + 1, by omega, by go_num, bthen HBX.out hb2⟩
        case measure => simp [intOf]; omega
    · have hR : ds.all defC = true := by
        rcases HE.out with ⟨_, hr⟩ | ⟨hj, _, _⟩
        · exact hr
        · omega
      obtain rfl : R = true := by rw [← HR.out, hR]
      clear hR
      go_wp2_with fail
      go_ret
      exact ⟨rfl, hb⟩
end Go.Proofs.YtmhehojjlacfoaaDoor
/- The contracts of 'few', 'names' and 'alive' of the statements of layer 3. -/
namespace Go.Proofs.YtmhehojjlacfoaaDoor
open Go.RowKit

theorem Tryd.infoL : (Tryd.prog.info? 45).map (fun i => (i.zero, i.size, i.bytes)) = some (some (.agg #[.string ⟨#[]⟩, .string ⟨#[]⟩]), 2, 32) := by kernel_rfl
theorem info_partsL {x : Option TypeInfo} (h : x.map (fun i => (i.zero, i.size, i.bytes)) = some (some (.agg #[.string ⟨#[]⟩, .string ⟨#[]⟩]), 2, 32)) : ∃ i, x = some i ∧ i.zero = some (.agg #[.string ⟨#[]⟩, .string ⟨#[]⟩]) ∧ i.size = 2 ∧ i.bytes = 32 := by
  cases x with
  | none => cases h
  | some i => simp at h; exact ⟨i, rfl, h.1, h.2.1, h.2.2⟩

/-- v is the call's own slice of the labels ls -/
def OwnL (T : TypeId) (w : World) (base : Nat) (v : Value) (ls : List Lab) : Prop := w.ownsRow base T 2 v ls.length (labsV ls)
theorem OwnL.call {T : TypeId} {w w1 : World} {base : Nat} {v : Value} {l : List Lab} (h : OwnL T w base v l) (hb : Below w.heap.size w w1) : OwnL T w1 base v l :=
  World.ownsRow.kept h (row := none) ⟨hb.os, hb.tape, hb.output, hb.size, fun k hk _ => hb.block k hk⟩ (by cases v.ownBlock <;> simp)
theorem OwnL.alloc {T : TypeId} {w : World} {base : Nat} {v : Value} {l : List Lab} (h : OwnL T w base v l) (o : Obj) : OwnL T (w.alloc o) base v l := World.ownsRow.alloc h o
theorem OwnL.grown {T : TypeId} {w w1 : World} {base : Nat} {v : Value} {l : List Lab} (h : OwnL T w base v l) {w0 : World} (hb : Below base w0 w) (hz : base ≤ w.heap.size) (hg : w.grownBy w1 v.ownBlock) : Below base w0 w1 :=
  hb.grown hg hz (fun k hk => (World.ownsRow.lt h k hk).1)
theorem OwnL.nil (T : TypeId) (w : World) (base : Nat) : OwnL T w base (.slice none 0 0) [] := World.ownsRow_nil _ _ _ _
theorem OwnL.labs {T : TypeId} {w : World} {base : Nat} {v : Value} {ls : List Lab} (h : OwnL T w base v ls) (hs : ∀ l ∈ ls, l.1.size ≤ maxLen ∧ l.2.size ≤ maxLen) : ∃ a c, v = .slice a ls.length c ∧ HasLabs w a c ls := labs_of_own h hs

theorem wpList_pushL {P : Program} (W : World) {ops : Array Oper} {rest : List Oper} {o : Oper} {a : Act} {Q : Exit → Act → World → Prop} (hgd : o.guard = none) (s x : Operand) (t : TypeId)
    (ho : o.op = .call { callee := .builtin .append, args := #[s, x], argTypes := #[t, t] })
    (base : Nat) (e : TypeId) (i : TypeInfo) (z : Value) (ht : P.underlying t = some (.slice e)) (hi : P.info? e = some i) (hz : i.zero = some z) (hsize : i.size = 2) (hby : i.bytes = 32) (hzs : z.cells.size = 2)
    (v : Value) (ls : List Lab) (l : Lab) (hs : a.eval s = v) (hown : OwnL e W base v ls) (us : List Value) (hus : us = labsV [l])
    (hx : a.eval x = .slice (some ⟨W.heap.size, 0, none⟩) 1 1) (h63 : ls.length ≤ 1000000) (hbase : base ≤ W.heap.size)
    (h : ∀ (v' : Value) (w' : World), OwnL e w' base v' (ls ++ [l]) → W.grownBy w' v.ownBlock → wpList P ops Q rest (a.put o.dst v') w') :
    wpList P ops Q (o :: rest) a (W.alloc (.cells us.toArray e)) := by
  subst hus
  refine wpList_append_own (W.alloc (.cells (labsV [l]).toArray e)) hgd s x t ho base e i z 2 32 ht hi hz hsize hby hzs (by omega) v ls.length (labsV ls) hs (World.ownsRow.alloc hown _) ⟨W.heap.size, 0, none⟩ 1 1 (labsV [l]) hx (by rw [labsV_len]; rfl) ?_ ?_ (by unfold maxLen; omega) (by omega) (by simp; omega) ?_
  · intro j y hy
    have e0 : (⟨W.heap.size, 0, none⟩ : Addr).add j = ⟨W.heap.size, j, none⟩ := by unfold Addr.add; split <;> simp_all
    rw [e0]
    rw [show (W.alloc (.cells (labsV [l]).toArray e)).cell? ⟨W.heap.size, j, none⟩ = _ from World.cell?_alloc_mark W (labsV [l]).toArray e (0, 0) j]
    simpa using hy
  · exact labsV_one _
  · intro v' w' hown' hg _
    refine h v' w' ?_ ⟨hg.os, hg.tape, hg.output, ?_, ?_⟩
    · unfold OwnL
      rw [labsV_app, List.length_append]
      exact hown'
    · have := hg.size; simp at this; omega
    · intro k hk hne
      rw [hg.block k (by simp; omega) hne]
      exact Below.heap_alloc W _ k hk

/-- the same, where the append lies in a region that draws its order -/
theorem step_pushL {P : Program} (W : World) {ops : Array Oper} {o : Oper} {a : Act} {K : Act → World → Prop} {Q : Exit → Act → World → Prop} {E : Prop} (hgd : o.guard = none) (s x : Operand) (t : TypeId)
    (ho : o.op = .call { callee := .builtin .append, args := #[s, x], argTypes := #[t, t] })
    (base : Nat) (e : TypeId) (i : TypeInfo) (z : Value) (ht : P.underlying t = some (.slice e)) (hi : P.info? e = some i) (hz : i.zero = some z) (hsize : i.size = 2) (hby : i.bytes = 32) (hzs : z.cells.size = 2)
    (v : Value) (ls : List Lab) (l : Lab) (hs : a.eval s = v) (hown : OwnL e W base v ls) (us : List Value) (hus : us = labsV [l]) (B : Nat)
    (hx : a.eval x = .slice (some ⟨B, 0, none⟩) 1 1) (hB : B = W.heap.size) (h63 : ls.length ≤ 1000000) (hbase : base ≤ W.heap.size)
    (h : ∀ (v' : Value) (w' : World), OwnL e w' base v' (ls ++ [l]) → W.grownBy w' v.ownBlock → K (a.put o.dst v') w') :
    if Region.wanted o (yielded ops a.tmps) = true then Oper.wp P o a (W.alloc (.cells us.toArray e)) K Q else E := by
  have hw : Region.wanted o (yielded ops a.tmps) = true := by simp [Region.wanted, hgd]
  rw [if_pos hw]
  subst hus hB
  refine wp_append_own (W.alloc (.cells (labsV [l]).toArray e)) s x t ho base e i z 2 32 ht hi hz hsize hby hzs (by omega) v ls.length (labsV ls) hs (World.ownsRow.alloc hown _) ⟨W.heap.size, 0, none⟩ 1 1 (labsV [l]) hx (by rw [labsV_len]; rfl) ?_ ?_ (by unfold maxLen; omega) (by omega) (by simp; omega) ?_
  · intro j y hy
    have e0 : (⟨W.heap.size, 0, none⟩ : Addr).add j = ⟨W.heap.size, j, none⟩ := by unfold Addr.add; split <;> simp_all
    rw [e0]
    rw [show (W.alloc (.cells (labsV [l]).toArray e)).cell? ⟨W.heap.size, j, none⟩ = _ from World.cell?_alloc_mark W (labsV [l]).toArray e (0, 0) j]
    simpa using hy
  · exact labsV_one _
  · intro v' w' hown' hg _
    refine h v' w' ?_ ⟨hg.os, hg.tape, hg.output, ?_, ?_⟩
    · unfold OwnL
      rw [labsV_app, List.length_append]
      exact hown'
    · have := hg.size; simp at this; omega
    · intro k hk hne
      rw [hg.block k (by simp; omega) hne]
      exact Below.heap_alloc W _ k hk
theorem run_min70 {P : Program} (w : World) (ts : Array TypeId) (t : TypeId) (x : Nat) : (Builtin.min_ ts t #[.int .i64 (x : Int), .int .i64 70]).run P w = .ok (.int .i64 ((min x 70 : Nat) : Int)) w := by
  simp [Builtin.min_, Builtin.min2]
  repeat' split
  all_goals omega
theorem run_slice_to {P : Program} (w : World) (t : TypeId) (s : ByteArray) (j : Nat) (h : P.underlying t = some .string) (h2 : j ≤ s.size) :
    (Instr.slice t (.string s) none (some (.int .i64 (j : Int))) none).run P w = .ok (.string (s.extract 0 j)) w := by
  have hj : (0 : Int) ≤ (j : Int) ∧ (j : Int) ≤ (s.size : Int) := ⟨by omega, by omega⟩
  simp [Instr.slice, Instr.sliceBounds, Instr.sliceBound, asIntOf, run_underlying h, hj]
  try omega
def cut70 (s : ByteArray) : ByteArray := if s.size ≤ 70 then s else s.extract 0 70
theorem cut70_ext (s : ByteArray) : s.extract 0 (min s.size 70) = cut70 s := by
  unfold cut70
  split
  · rw [Nat.min_eq_left (by assumption)]; simp
  · rw [Nat.min_eq_right (by omega)]
theorem run_cut70 {P : Program} (w : World) (t : TypeId) (s : ByteArray) (h : P.underlying t = some .string) :
    (Instr.slice t (.string s) none (some (.int .i64 ((min s.size 70 : Nat) : Int))) none).run P w = .ok (.string (cut70 s)) w := by
  rw [run_slice_to w t s (min s.size 70) h (by omega), cut70_ext]
theorem cut70_size (s : ByteArray) : (cut70 s).size ≤ 70 := by
  unfold cut70; split
  · assumption
  · simp; omega
def fewL (ls : List Lab) : List Lab := (ls.take 10).map fun l => (cut70 l.1, cut70 l.2)
theorem fewL_len (ls : List Lab) : (fewL ls).length ≤ 10 := by simp [fewL]; omega
theorem fewL_size (ls : List Lab) : ∀ l ∈ fewL ls, l.1.size ≤ 70 ∧ l.2.size ≤ 70 := by
  intro l hl
  obtain ⟨x, _, rfl⟩ := List.mem_map.1 hl
  exact ⟨cut70_size _, cut70_size _⟩
def LabsPost (ls : List Lab) (w : World) (e : Ending) (w' : World) : Prop := ∃ a c, e = .returned (.slice a ls.length c) ∧ HasLabs w' a c ls ∧ Below w.heap.size w w'

end Go.Proofs.YtmhehojjlacfoaaDoor
