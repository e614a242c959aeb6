/- Nodes whose rows lie in some blocks alone, and rows of nodes that a call makes. -/
import Derived.Test.YtolbhhokpelchaaDoorOutN
import Derived.Test.YtolbhhokpelchaaDoorLib
namespace Go.Proofs.YtolbhhokpelchaaDoor
open Go.RowKit

/-- a node, and all within it, lie in blocks of P alone -/
inductive NdAt.inn (P : Nat → Prop) (w : World) : NdAt → Prop
  | flat (q : NdAt) : q.head w → (q.n.names ≠ [] → ∀ b o s, q.na = some ⟨b, o, s⟩ → P b) → q.n.items = [] → NdAt.inn P w q
  | row (q : NdAt) (b off : Nat) (R : Nat → NdAt) : q.head w → (q.n.names ≠ [] → ∀ b o s, q.na = some ⟨b, o, s⟩ → P b) → q.ia = some ⟨b, off, none⟩ → P b → b < w.heap.size → (∀ i (h : i < q.n.items.length), (R i).n = q.n.items[i]) → (∀ i, i < q.n.items.length → (R i).lies w b (off + i * 4)) → (∀ i, i < q.n.items.length → NdAt.inn P w (R i)) → NdAt.inn P w q
theorem NdAt.inn.ok {P : Nat → Prop} {w : World} {q : NdAt} (h : q.inn P w) : q.ok w := by
  induction h with
  | flat q h0 _ h1 => exact .flat q h0 h1
  | row q b off R h0 _ h1 _ h2 h3 h4 _ ih => exact .row q b off R h0 h1 h2 h3 h4 ih
theorem NdAt.inn.mono {P Q : Nat → Prop} {w : World} {q : NdAt} (h : q.inn P w) (hp : ∀ b, P b → Q b) : q.inn Q w := by
  induction h with
  | flat q h0 hn h1 => exact .flat q h0 (fun hh b o s e => hp _ (hn hh b o s e)) h1
  | row q b off R h0 hn h1 hb h2 h3 h4 _ ih => exact .row q b off R h0 (fun hh b o s e => hp _ (hn hh b o s e)) h1 (hp _ hb) h2 h3 h4 ih
theorem HasStrs.same {w w' : World} {a : Option Addr} {c : Nat} {ss : List ByteArray} (h : HasStrs w a c ss) (hz : w.heap.size ≤ w'.heap.size) (hb : ss ≠ [] → ∀ b o s, a = some ⟨b, o, s⟩ → w'.heap[b]? = w.heap[b]?) : HasStrs w' a c ss := by
  obtain ⟨h1, h2, h3, h4⟩ := h
  refine ⟨h1, h2, h3, ?_⟩
  by_cases he : ss = []
  · exact .inl he
  rcases h4 with h4 | ⟨b, off, rfl, hlt, hc⟩
  · exact .inl h4
  · refine .inr ⟨b, off, rfl, Nat.lt_of_lt_of_le hlt hz, fun i hi => ?_⟩
    have e := hb he b off none rfl
    have := hc i hi
    unfold World.cell? at this ⊢
    rw [show w'.heap[(⟨b, off + i, none⟩ : Addr).block]? = w.heap[b]? from e]
    exact this
theorem NdAt.head.same {w w' : World} {q : NdAt} (h : q.head w) (hz : w.heap.size ≤ w'.heap.size) (hb : q.n.names ≠ [] → ∀ b o s, q.na = some ⟨b, o, s⟩ → w'.heap[b]? = w.heap[b]?) : q.head w' := ⟨h.1.same hz hb, h.2⟩
theorem cell_same {w w' : World} {b o : Nat} (e : w'.heap[b]? = w.heap[b]?) : w'.cell? ⟨b, o, none⟩ = w.cell? ⟨b, o, none⟩ := by
  unfold World.cell?
  rw [show w'.heap[(⟨b, o, none⟩ : Addr).block]? = w.heap[b]? from e]
theorem NdAt.inn.keep {P : Nat → Prop} {w w' : World} {q : NdAt} (h : q.inn P w) (hz : w.heap.size ≤ w'.heap.size) (hb : ∀ b, P b → w'.heap[b]? = w.heap[b]?) : q.inn P w' := by
  induction h with
  | flat q h0 hn h1 => exact .flat q (h0.same hz fun hh b o s e => hb _ (hn hh b o s e)) hn h1
  | row q b off R h0 hn h1 hp h2 h3 h4 _ ih =>
    refine .row q b off R (h0.same hz fun hh b o s e => hb _ (hn hh b o s e)) hn h1 hp (Nat.lt_of_lt_of_le h2 hz) h3 (fun i hi => ?_) ih
    obtain ⟨e0, e1, e2, e3⟩ := h4 i hi
    exact ⟨(cell_same (hb _ hp)).trans e0, (cell_same (hb _ hp)).trans e1, (cell_same (hb _ hp)).trans e2, (cell_same (hb _ hp)).trans e3⟩
/-- a node laid from its items -/
theorem NdAt.inn.of {P : Nat → Prop} {w : World} {q : NdAt} {b off : Nat} (h0 : q.head w) (hn : q.n.names ≠ [] → ∀ b o s, q.na = some ⟨b, o, s⟩ → P b) (h1 : q.ia = some ⟨b, off, none⟩) (hp : P b) (h2 : b < w.heap.size)
    (h3 : ∀ i (_h : i < q.n.items.length), ∃ r : NdAt, r.n = q.n.items[i] ∧ r.lies w b (off + i * 4) ∧ r.inn P w) : q.inn P w := by
  classical
  have h' : ∀ i, ∃ r : NdAt, ∀ (h : i < q.n.items.length), r.n = q.n.items[i] ∧ r.lies w b (off + i * 4) ∧ r.inn P w := by
    intro i
    by_cases hi : i < q.n.items.length
    · obtain ⟨r, hr⟩ := h3 i hi
      exact ⟨r, fun _ => hr⟩
    · exact ⟨default, fun h => absurd h hi⟩
  refine .row q b off (fun i => Classical.choose (h' i)) h0 hn h1 hp h2 (fun i hi => (Classical.choose_spec (h' i) hi).1) (fun i hi => (Classical.choose_spec (h' i) hi).2.1) fun i hi => (Classical.choose_spec (h' i) hi).2.2

/-! ### A row of nodes of the call's own -/
def ndV (q : NdAt) : List Value := [.int .i64 q.n.kind, .string q.n.word, .slice q.na q.n.names.length q.nc, .slice q.ia q.n.items.length q.ic]
def ndsV (qs : List NdAt) : List Value := qs.flatMap ndV
theorem ndsV_len : ∀ (qs : List NdAt), (ndsV qs).length = qs.length * 4
  | [] => rfl
  | t :: ts => by
    have ih := ndsV_len ts
    have e : ndsV (t :: ts) = ndV t ++ ndsV ts := rfl
    rw [e, List.length_append, ih, List.length_cons]
    show 4 + _ = _
    omega
theorem ndsV_app (a b : List NdAt) : ndsV (a ++ b) = ndsV a ++ ndsV b := by simp [ndsV]
theorem ndV_one (q : NdAt) : ∀ u ∈ ndV q, u.oneCell' = true := by
  intro u hu
  simp only [ndV, List.mem_cons, List.not_mem_nil, or_false] at hu
  rcases hu with rfl | rfl | rfl | rfl <;> rfl
theorem ndsV_get : ∀ (ts : List NdAt) (i : Nat) (h : i < ts.length) (j : Nat), j < 4 → (ndsV ts)[i * 4 + j]? = (ndV ts[i])[j]?
  | t :: ts, 0, _, j, hj => by
    have e : ndsV (t :: ts) = ndV t ++ ndsV ts := rfl
    rw [e, Nat.zero_mul, Nat.zero_add, List.getElem?_append_left (show j < (ndV t).length from hj)]
    rfl
  | t :: ts, i + 1, h, j, hj => by
    have e : ndsV (t :: ts) = ndV t ++ ndsV ts := rfl
    have ih := ndsV_get ts i (by simpa using h) j hj
    rw [e, List.getElem?_append_right (show (ndV t).length ≤ _ by show 4 ≤ _; omega), show (i + 1) * 4 + j - (ndV t).length = i * 4 + j by show _ - 4 = _; omega, ih]
    rfl
/-- v is the call's own slice of the nodes qs -/
def OwnN (w : World) (base : Nat) (v : Value) (qs : List NdAt) : Prop := w.ownsRow base 25 4 v qs.length (ndsV qs)
theorem OwnN.call {w w1 : World} {base : Nat} {v : Value} {l : List NdAt} (h : OwnN w base v l) (hb : Below w.heap.size w w1) : OwnN w1 base v l :=
  World.ownsRow.kept h (row := none) ⟨hb.os, hb.tape, hb.output, hb.size, fun k hk _ => hb.block k hk⟩ (by cases v.ownBlock <;> simp)
theorem OwnN.alloc {w : World} {base : Nat} {v : Value} {l : List NdAt} (h : OwnN w base v l) (o : Obj) : OwnN (w.alloc o) base v l := World.ownsRow.alloc h o
theorem OwnN.nil (w : World) (base : Nat) : OwnN w base (.slice none 0 0) [] := World.ownsRow_nil _ _ _ _
theorem OwnN.slice {w : World} {base : Nat} {v : Value} {l : List NdAt} (h : OwnN w base v l) : ∃ a c, v = .slice a l.length c ∧ l.length ≤ c ∧ c ≤ maxLen := by
  rcases h.2 with ⟨rfl, h0⟩ | ⟨g, cap, cur, rfl, hb, hg, hn, hm, hcs, ht⟩
  · exact ⟨none, 0, by rw [h0], by omega, by unfold maxLen; omega⟩
  · exact ⟨_, cap, rfl, hn, hm⟩
/-- a block of another type is no such row's -/
theorem OwnN.ne {w : World} {base f : Nat} {v : Value} {l : List NdAt} {t : TypeId} {cs : Array Value} (h : OwnN w base v l) (hF : Blk w f t cs) (ht : t ≠ 25) : some f ≠ v.ownBlock := fun e => by
  rcases h.2 with ⟨rfl, h0⟩ | ⟨g, cap, cur, rfl, hb, hg, hn, hm, hcs, hh⟩
  · cases e
  · obtain rfl : f = g := by simpa [Value.ownBlock] using e
    rw [show w.heap[f]? = some (.cells cs t (0, 0)) from hF] at hg
    simp at hg
    exact ht hg.2
theorem OwnN.neS {w : World} {base base' : Nat} {v u : Value} {l : List NdAt} {ss : List ByteArray} (h : OwnN w base v l) (hs : OwnS 9 w base' u ss) : v.ownBlock = none ∨ v.ownBlock ≠ u.ownBlock := by
  rcases h.2 with ⟨rfl, h0⟩ | ⟨g, cap, cur, rfl, hb, hg, hn, hm, hcs, hh⟩
  · exact .inl rfl
  · refine .inr fun e => ?_
    rcases hs.2 with ⟨rfl, h0⟩ | ⟨g', cap', cur', rfl, hb', hg', _⟩
    · cases e
    · obtain rfl : g = g' := by simpa [Value.ownBlock] using e
      rw [hg] at hg'
      simp at hg'
/-- what such a row, whose nodes lie elsewhere, is as a node's items -/
theorem OwnN.inn {P : Nat → Prop} {w : World} {base : Nat} {qs : List NdAt} {kind : Int} {word : ByteArray} {names : List ByteArray} {na ia : Option Addr} {nc ic : Nat} (h : OwnN w base (.slice ia qs.length ic) qs) (hn : HasStrs w na nc names)
    (hP : names ≠ [] → ∀ b o s, na = some ⟨b, o, s⟩ → P b) (hQ : ∀ b, (Value.slice ia qs.length ic).ownBlock = some b → P b) (hw : word.size ≤ maxLen) (hk : (Lit.int .i64 kind).wf = true) (hi : ∀ q ∈ qs, q.inn P w) :
    NdAt.inn P w ⟨.mk kind word names (qs.map (·.n)), na, nc, ia, ic⟩ := by
  obtain ⟨a, c, e, h1, h2⟩ := h.slice
  simp only [Value.slice.injEq] at e
  obtain ⟨rfl, _, rfl⟩ := e
  have hh : NdAt.head w ⟨.mk kind word names (qs.map (·.n)), na, nc, ia, ic⟩ := ⟨hn, hw, hk, by show (qs.map (·.n)).length ≤ ic; rw [List.length_map]; exact h1, h2⟩
  have h' : w.ownsRow base 25 4 (.slice ia qs.length ic) qs.length (ndsV qs) := h
  rcases h'.2 with ⟨e, h0⟩ | ⟨g, cap, cur, e, hb, hg, hn', hm, hcs, ht⟩
  · exact .flat _ hh hP (by show qs.map (·.n) = []; rw [List.eq_nil_of_length_eq_zero h0]; rfl)
  · simp only [Value.slice.injEq] at e
    obtain ⟨rfl, _, rfl⟩ := e
    have hl : (ndsV qs).length = qs.length * 4 := ndsV_len qs
    refine .of (b := g) (off := 0) hh hP rfl (hQ g rfl) (lt_of_block hg) fun i hi' => ?_
    have hlt : i < qs.length := by
      have : i < (qs.map (·.n)).length := hi'
      simpa using this
    refine ⟨qs[i], by show qs[i].n = (qs.map (·.n))[i]'(by simpa using hlt); simp, ⟨?_, ?_, ?_, ?_⟩, hi _ (List.getElem_mem hlt)⟩
    · rw [Nat.zero_add, h'.cellAt (i * 4) (by omega)]; exact (ndsV_get qs i hlt 0 (by omega))
    · rw [Nat.zero_add, h'.cellAt (i * 4 + 1) (by omega)]; exact (ndsV_get qs i hlt 1 (by omega))
    · rw [Nat.zero_add, h'.cellAt (i * 4 + 2) (by omega)]; exact (ndsV_get qs i hlt 2 (by omega))
    · rw [Nat.zero_add, h'.cellAt (i * 4 + 3) (by omega)]; exact (ndsV_get qs i hlt 3 (by omega))
abbrev ndZ : Value := .agg #[.int .i64 0, .string ⟨#[]⟩, .slice none 0 0, .slice none 0 0]
theorem Tryd.infoN : (Tryd.prog.info? 25).map (fun i => (i.zero, i.size, i.bytes)) = some (some ndZ, 4, 72) := by kernel_rfl
theorem info_partsN {x : Option TypeInfo} (h : x.map (fun i => (i.zero, i.size, i.bytes)) = some (some ndZ, 4, 72)) : ∃ i, x = some i ∧ i.zero = some ndZ ∧ i.size = 4 ∧ i.bytes = 72 := by
  cases x with
  | none => cases h
  | some i => simp at h; exact ⟨i, rfl, h.1, h.2.1, h.2.2⟩
theorem wpList_pushN {P : Program} (W : World) {ops : Array Oper} {rest : List Oper} {o : Oper} {a : Act} {Q : Exit → Act → World → Prop} (hgd : o.guard = none) (s x : Operand) (t : TypeId)
    (ho : o.op = .call { callee := .builtin .append, args := #[s, x], argTypes := #[t, t] })
    (base : Nat) (i : TypeInfo) (z : Value) (ht : P.underlying t = some (.slice 25)) (hi : P.info? 25 = some i) (hz : i.zero = some z) (hsize : i.size = 4) (hby : i.bytes = 72) (hzs : z.cells.size = 4)
    (v : Value) (ls : List NdAt) (l : NdAt) (hs : a.eval s = v) (hown : OwnN W base v ls) (us : List Value) (hus : us = ndV l)
    (hx : a.eval x = .slice (some ⟨W.heap.size, 0, none⟩) 1 1) (h63 : ls.length ≤ 1000000) (hbase : base ≤ W.heap.size)
    (h : ∀ (v' : Value) (w' : World), OwnN w' base v' (ls ++ [l]) → W.grownBy w' v.ownBlock → wpList P ops Q rest (a.put o.dst v') w') :
    wpList P ops Q (o :: rest) a (W.alloc (.cells us.toArray 25)) := by
  subst hus
  refine wpList_append_own (W.alloc (.cells (ndV l).toArray 25)) hgd s x t ho base 25 i z 4 72 ht hi hz hsize hby hzs (by omega) v ls.length (ndsV ls) hs (World.ownsRow.alloc hown _) ⟨W.heap.size, 0, none⟩ 1 1 (ndV l) hx (by rfl) ?_ ?_ (by unfold maxLen; omega) (by omega) (by simp; omega) ?_
  · intro j y hy
    have e0 : (⟨W.heap.size, 0, none⟩ : Addr).add j = ⟨W.heap.size, j, none⟩ := by unfold Addr.add; split <;> simp_all
    rw [e0]
    rw [show (W.alloc (.cells (ndV l).toArray 25)).cell? ⟨W.heap.size, j, none⟩ = _ from World.cell?_alloc_mark W (ndV l).toArray 25 (0, 0) j]
    simpa using hy
  · exact ndV_one l
  · intro v' w' hown' hg _
    refine h v' w' ?_ ⟨hg.os, hg.tape, hg.output, ?_, ?_⟩
    · unfold OwnN
      rw [ndsV_app, List.length_append, show ndsV [l] = ndV l by simp [ndsV]]
      exact hown'
    · have := hg.size; simp at this; omega
    · intro k hk hne
      rw [hg.block k (by simp; omega) hne]
      exact Below.heap_alloc W _ k hk
end Go.Proofs.YtolbhhokpelchaaDoor
